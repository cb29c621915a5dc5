/-
  Walks: Decode of package entry, whatever the value.
-/
import Derived.Test.YticlomakmcjcfaaEW7
namespace Go.Proofs.Yticlomakmcjcfaa
open Go.RowKit Go.Sort
set_option linter.unusedVariables false

set_option maxRecDepth 100000 in
set_option maxHeartbeats 1000000 in
theorem decode_short (v : Bs) (w : World) (hv : v.length < 2) :
    Calls Try.prog 64 #[.string (Str v)] w fun e w' => e = .returned (decV false 0 0 0 0 0 []) ∧ Below w.heap.size w w' := by
  have hv' : (v.length : Int) < 2 := by omega
  go_enter Try.func64, Try.ntmps64
  go_wp2
  exact bodyPost_ret (v := .tuple #[.agg #[.int .i64 0, .int .i64 0, .int .i64 0, .int .i64 0, .int .i64 0, .string (Str [])], .int .i64 30]) (by simp [results, Try.results64, go_sem]; rfl) rfl ⟨rfl, below_box _⟩

set_option maxRecDepth 100000 in
set_option maxHeartbeats 1000000 in
theorem decode_kind (x y : UInt8) (r : Bs) (w : World) (hr : r.length ≤ 140737488355328) (hx : x.toNat < 1 ∨ 5 ≤ x.toNat) :
    Calls Try.prog 64 #[.string (Str (x :: y :: r))] w fun e w' => e = .returned (decV false 0 0 0 0 0 []) ∧ Below w.heap.size w w' := by
  have hh : ∀ wx, Calls Try.prog 117 #[.int .i64 x.toNat] wx fun e w' => e = .returned (.tuple #[.agg #[.nilFunc, .nilFunc, .nilFunc], .bool false]) ∧ Grown wx w' := fun wx => by
    rcases hx with h | h
    · exact kindOf_lo x.toNat wx (by omega)
    · exact kindOf_hi x.toNat wx (by omega)
  have Hh := Lib.hid hh
  have hx1 : (x.toNat : Int) ≤ 255 := by have := x.toNat_lt; omega
  have hx0 : 0 ≤ (x.toNat : Int) := by omega
  have RB := Lib.hid (Blk.new w 78 #[.int .i64 0, .int .i64 0, .int .i64 0, .int .i64 0, .int .i64 0, .string ⟨#[]⟩])
  clear hh hx
  go_enter Try.func64, Try.ntmps64
  go_wp2_with (go_at_call 117; refine (Hh.out _).mono ?_; rintro e w1 ⟨rfl, hg1⟩; have hr3 := Blk.below RB.out (hg1.below (Nat.le_refl _)) RB.out.lt; have d0 := hr3.c0 0 _ rfl; have d1 := hr3.c0 1 _ rfl; have d2 := hr3.c0 2 _ rfl; have d3 := hr3.c0 3 _ rfl; have d4 := hr3.c0 4 _ rfl; have d5 := hr3.c0 5 _ rfl; have f0 := hr3.free 0; have f1 := hr3.free 1; have f2 := hr3.free 2; have f3 := hr3.free 3; have f4 := hr3.free 4; have f5 := hr3.free 5; simp at d0 d1 d2 d3 d4 d5; have hlt := hr3.lt; have HB1 := Lib.hid hg1; clear hg1 hr3)
  have HB : Below w.heap.size w w1 := Below.trans (below_box _) (HB1.out.below (by simp))
  refine bodyPost_ret (v := .tuple #[.agg #[.int .i64 0, .int .i64 0, .int .i64 0, .int .i64 0, .int .i64 0, .string (Str [])], .int .i64 30]) (by simp [results, Try.results64, go_sem, d0, d1, d2, d3, d4, d5, hlt]; rfl) rfl ⟨rfl, ?_⟩
  exact (below_set6 HB _ (Nat.le_refl _) _ _ _ _ _ _).alloc (by simp; omega) _

/-- What Decode answers, out of the plain function. -/
def decR (v : Bs) : Value := .tuple #[.agg #[.int .i64 (decE v).1.kind, .int .i64 (decE v).1.size, .int .i64 (decE v).1.links, .int .i64 (decE v).1.id, .int .i64 (decE v).1.owner, .string (Str (decE v).1.text)], .int .i64 (decE v).2]

theorem decR_no {v : Bs} (h : decE v = (Ent.zero, 30)) : decR v = decV false 0 0 0 0 0 [] := by unfold decR; rw [h]; rfl
theorem decV_false (k s l i o : Int) (t : Bs) : decV false k s l i o t = decV false 0 0 0 0 0 [] := rfl
theorem decR_some {x y : UInt8} {r : Bs} {e : Ent} (h : readE x.toNat r = some e) : decR (x :: y :: r) = decV (validE ⟨x.toNat, e.size, e.links, e.id, y.toNat, e.text⟩) x.toNat e.size e.links e.id y.toNat e.text := by
  unfold decR decE
  simp only [h]
  cases hv : validE ⟨x.toNat, e.size, e.links, e.id, y.toNat, e.text⟩ with
  | true => simp [decV]
  | false => simp [decV, Ent.zero]
theorem decR_none {x y : UInt8} {r : Bs} (h : readE x.toNat r = none) : decR (x :: y :: r) = decV false 0 0 0 0 0 [] := by
  apply decR_no; unfold decE; simp only [h]

theorem decode_w (v : Bs) (w : World) (hv : v.length ≤ 140737488355328) :
    Calls Try.prog 64 #[.string (Str v)] w fun e w' => e = .returned (decR v) ∧ Below w.heap.size w w' := by
  match v, hv with
  | [], _ => rw [decR_no rfl]; exact decode_short [] w (by simp)
  | [x], _ => rw [decR_no rfl]; exact decode_short [x] w (by simp)
  | x :: y :: r, hv =>
    have hr : r.length ≤ 140737488355328 := by simp only [List.length_cons] at hv; omega
    have hm : r.length ≤ maxLen := by unfold maxLen; omega
    by_cases h1 : x = 1
    · subst h1
      by_cases hn : r = []
      · subst hn
        have hread : readE (1 : UInt8).toNat [] = some Ent.zero := rfl
        rw [decR_some hread]
        have h := decode1_w y [] 0 0 0 [] w hr (by unfold maxLen; simp) true _ (fun wx => k3_w [] wx hm) rfl
        rw [Bool.true_and] at h
        exact h
      · have hread : readE (1 : UInt8).toNat r = none := by unfold readE; simp [hn]
        rw [decR_none hread]
        have hf : r.isEmpty = false := by simpa using hn
        have hk := fun wx => k3_w r wx hm
        rw [hf] at hk
        exact decode1_w y r 0 0 0 [] w hr (by unfold maxLen; simp) false _ hk rfl
    · by_cases h2 : x = 2
      · subst h2
        by_cases hn : r.length = 4
        · have hread : readE (2 : UInt8).toNat r = some { Ent.zero with size := numF (r.take 2), links := numF (r.drop 2) } := by unfold readE; simp [hn]
          rw [decR_some hread]
          have h := decode2_w y r (numF (r.take 2)) (numF (r.drop 2)) 0 [] w hr (by unfold maxLen; simp) true _ (fun wx => fileFields_yes r wx hn) rfl
          rw [Bool.true_and] at h
          exact h
        · have hread : readE (2 : UInt8).toNat r = none := by unfold readE; simp [hn]
          rw [decR_none hread]
          exact decode2_w y r 0 0 0 [] w hr (by unfold maxLen; simp) false _ (fun wx => fileFields_no r wx hm hn) rfl
      · by_cases h3 : x = 3
        · subst h3
          have hread : readE (3 : UInt8).toNat r = some { Ent.zero with text := r } := by unfold readE; simp
          rw [decR_some hread]
          have h := decode3_w y r 0 0 0 r w hr hm true _ (fun wx => k6_w r wx hm) rfl
          rw [Bool.true_and] at h
          exact h
        · by_cases h4 : x = 4
          · subst h4
            by_cases hn : r.length = 4
            · have hread : readE (4 : UInt8).toNat r = some { Ent.zero with id := numF r } := by unfold readE; simp [hn]
              rw [decR_some hread]
              have h := decode4_w y r 0 0 (numF r) [] w hr (by unfold maxLen; simp) true _ (fun wx => linkFields_yes r wx hn) rfl
              rw [Bool.true_and] at h
              exact h
            · have hread : readE (4 : UInt8).toNat r = none := by unfold readE; simp [hn]
              rw [decR_none hread]
              exact decode4_w y r 0 0 0 [] w hr (by unfold maxLen; simp) false _ (fun wx => linkFields_no r wx hm hn) rfl
          · have g1 : ¬ x.toNat = 1 := fun h => h1 (UInt8.toNat_inj.1 h)
            have g2 : ¬ x.toNat = 2 := fun h => h2 (UInt8.toNat_inj.1 h)
            have g3 : ¬ x.toNat = 3 := fun h => h3 (UInt8.toNat_inj.1 h)
            have g4 : ¬ x.toNat = 4 := fun h => h4 (UInt8.toNat_inj.1 h)
            have hread : readE x.toNat r = none := by unfold readE; simp [g1, g2, g3, g4]
            rw [decR_none hread]
            exact decode_kind x y r w hr (by omega)

end Go.Proofs.Yticlomakmcjcfaa

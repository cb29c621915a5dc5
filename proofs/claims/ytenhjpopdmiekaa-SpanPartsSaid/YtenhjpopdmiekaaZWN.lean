/-
  Walks: what begins with a text; the keys near the ends of spans.
-/
import Derived.Test.YtenhjpopdmiekaaZW8
import Derived.Test.YtenhjpopdmiekaaZW3
import Derived.Deep.RegionLawGrows
namespace Go.Proofs.Ytenhjpopdmiekaa
open Go.RowKit Go.Sort
set_option linter.unusedVariables false

theorem begins_eq (k p : Bs) (h : p.length ≤ k.length) : p.isPrefixOf k = (k.take p.length == p) := by
  rw [Bool.eq_iff_iff, List.isPrefixOf_iff_prefix, List.prefix_iff_eq_take, beq_iff_eq]
  exact eq_comm
theorem begins_short (k p : Bs) (h : k.length < p.length) : p.isPrefixOf k = false := by
  rw [Bool.eq_false_iff]
  intro h2
  have := (List.isPrefixOf_iff_prefix.1 h2).length_le
  omega
set_option maxHeartbeats 1000000 in
theorem begins_w (k p : Bs) (w : World) (hk : k.length ≤ 140737488355328) (hp : p.length ≤ 140737488355328) : Calls Try.prog 35 #[.string (Str k), .string (Str p)] w fun e w' => e = .returned (.bool (p.isPrefixOf k)) ∧ Grown w w' := by
  by_cases h : p.length ≤ k.length
  · have H := Lib.hid (begins_eq k p h)
    have hz : (p.length : Int) ≤ (k.length : Int) := by omega
    go_enter Try.func35, Try.ntmps35
    go_wp2
    go_ret
    exact ⟨ret_bool H.out.symm, Grown.refl _⟩
  · have H := Lib.hid (begins_short k p (by omega))
    have hz : (k.length : Int) < (p.length : Int) := by omega
    have hzd : decide ((p.length : Int) ≤ (k.length : Int)) = false := by simp; omega
    go_enter Try.func35, Try.ntmps35
    go_wp2
    go_ret
    exact ⟨ret_bool H.out.symm, Grown.refl _⟩

/-- append to the call's own row, as a step of a region that draws. -/
theorem step_own {P : Program} {ops : Array Oper} {o : Oper} {a : Act} {w : World} {K : Act → World → Prop} {Q : Exit → Act → World → Prop} {E : Prop}
    (hg : o.guard = none) (s x : Operand) (t : TypeId) (hop : o.op = Op.call { callee := Callee.builtin Builtin.append, args := #[s, x], argTypes := #[t, t] })
    (base : Nat) (e : TypeId) (i : TypeInfo) (z : Value) (size bytes : Nat) (h1 : P.underlying t = some (.slice e)) (h2 : P.info? e = some i) (h3 : i.zero = some z) (h4 : i.size = size) (h5 : i.bytes = bytes) (h6 : z.cells.size = size) (h7 : 0 < size)
    (v : Value) (n : Nat) (xs : List Value) (hs : a.eval s = v) (hown : w.ownsRow base e size v n xs)
    (ad : Addr) (m c : Nat) (news : List Value) (hx : a.eval x = .slice (some ad) m c) (hn : news.length = m * size) (hc : ∀ j u, news[j]? = some u → w.cell? (ad.add j) = some u) (h1c : ∀ u ∈ news, u.oneCell' = true)
    (b1 : n + m ≤ maxLen) (b2 : (n + m) * bytes ≤ 140737488355328) (b3 : base ≤ w.heap.size)
    (hK : ∀ v' w', w'.ownsRow base e size v' (n + m) (xs ++ news) → w.grownBy w' v.ownBlock → K (a.put o.dst v') w') :
    if Region.wanted o (yielded ops a.tmps) = true then Oper.wp P o a w K Q else E := by
  have hw : Region.wanted o (yielded ops a.tmps) = true := by simp [Region.wanted, hg]
  rw [if_pos hw]
  obtain ⟨v', w', hrun, r1, r2, _⟩ := run_append_own (P := P) w base t o.type e i z size bytes h1 h2 h3 h4 h5 h6 h7 v n xs hown ad m c news hn hc h1c b1 b2 b3
  unfold Oper.wp
  simp [execOp, hop, resolve, invoke, builtin, hs, hx, hrun, Result.andThen]
  exact hK v' w' r1 r2

/-- A row of four or more is no block of two. -/
theorem own_ne {w : World} {base : Nat} {e T : TypeId} {v : Value} {n : Nat} {xs : List Value} {b : Nat} {x y : Value} (h : w.ownsRow base e 1 v n xs) (hb : Blk w b T #[x, y]) (hn : 3 ≤ n) : some b ≠ v.ownBlock := by
  rcases h.2 with ⟨rfl, h0⟩ | ⟨g, cap, cur, rfl, _, hg, hc, _, hsz, _⟩
  · omega
  · intro he
    have : b = g := by simpa [Value.ownBlock] using he
    subst this
    unfold Blk at hb
    rw [hg] at hb
    injection hb with hb
    injection hb with hb
    subst hb
    simp at hsz
    omega
theorem Blk.grownBy {w w' : World} {b : Nat} {T : TypeId} {cs : Array Value} {row : Option Nat} (h : Blk w b T cs) (hg : w.grownBy w' row) (hne : some b ≠ row) : Blk w' b T cs := by
  unfold Blk; rw [hg.block b h.lt hne]; exact h
/-- Keys, as cells. -/
def cellsK (ks : List Bs) : List Value := ks.map fun s => .string (Str s)
theorem cellsK_len (ks : List Bs) : (cellsK ks).length = ks.length := by simp [cellsK]

theorem near_step {w w2 W w3 : World} {base eb n : Nat} {v : Value} {xs : List Value} {T E : TypeId} {x y : Value} (hg : W.grownBy w3 v.ownBlock) (hb : Below w2.heap.size w2 W) (hE : Blk w2 eb E #[x, y]) (ho : w2.ownsRow base T 1 v n xs) (hn : 3 ≤ n) (hbel : Below w.heap.size w w2) (hB : w.heap.size ≤ base) :
    Blk w3 eb E #[x, y] ∧ Below w.heap.size w w3 := by
  have b1 := hE.below hb hE.lt
  have o1 := owns_below ho hb
  exact ⟨b1.grownBy hg (own_ne o1 b1 hn), Below.grown (Below.next hbel (Nat.le_refl _) hb) hg (Nat.le_trans hbel.size hb.size) (fun q hq => Nat.le_trans hB (ho.lt q hq).1)⟩
theorem own_more3 {w : World} {base n : Nat} {v : Value} {ks : List Bs} {a b c : ByteArray} (h : w.ownsRow base 9 1 v (ks.length + 3) (cellsK ks ++ [.string a, .string b, .string c])) : ∃ ks' : List Bs, ks'.length = ks.length + 3 ∧ w.ownsRow base 9 1 v ks'.length (cellsK ks') :=
  ⟨ks ++ [a.toList, b.toList, c.toList], by simp, by simpa [cellsK, Str_toList] using h⟩
theorem own_more2 {w : World} {base n : Nat} {v : Value} {ks : List Bs} {a b : ByteArray} (h : w.ownsRow base 9 1 v (ks.length + 2) (cellsK ks ++ [.string a, .string b])) : ∃ ks' : List Bs, ks'.length = ks.length + 2 ∧ w.ownsRow base 9 1 v ks'.length (cellsK ks') :=
  ⟨ks ++ [a.toList, b.toList], by simp, by simpa [cellsK, Str_toList] using h⟩

set_option maxRecDepth 100000 in
set_option maxHeartbeats 4000000 in
theorem near_w (v : Value) (l : List Sp) (w : World) (h : IsSpans w v l) (hl : l.length ≤ 100) (hs : ∀ s ∈ l, s.1.length ≤ 100 ∧ s.2.length ≤ 100) :
    Calls Try.prog 32 #[v] w fun e w' => ∃ v' ks, e = .returned v' ∧ w'.ownsRow w.heap.size 9 1 v' ks.length (cellsK ks) ∧ ks.length ≤ 2000 ∧ Below w.heap.size w w' := by
  have mixed := mixedA
  obtain ⟨i0, hi, hz0, hz1, hz2⟩ := info_parts infoStr
  obtain ⟨g, off, cap, p, rfl, hlc, hcm, hpp, hcc⟩ := h.form
  unfold maxLen at hcm
  have HP := Lib.hid hpp
  have HC := Lib.hid hcc
  have Hs := Lib.hid hs
  clear h hpp hcc hs
  have hown0 : Hid ((w.alloc (.cells #[.string ⟨#[]⟩, .string ⟨#[0]⟩, .string ⟨#[97]⟩, .string ⟨#[255]⟩] 9)).ownsRow w.heap.size 9 1 (.slice (some ⟨w.heap.size, 0, none⟩) 4 4) ([[], [0], [97], [255]] : List Bs).length (cellsK [[], [0], [97], [255]])) :=
    Lib.hid ⟨rfl, .inr ⟨w.heap.size, 4, #[.string ⟨#[]⟩, .string ⟨#[0]⟩, .string ⟨#[97]⟩, .string ⟨#[255]⟩], rfl, Nat.le_refl _, by unfold World.alloc; simp, by decide, by unfold maxLen; omega, rfl, rfl⟩⟩
  go_enter Try.func32, Try.ntmps32
  go_wp2
  go_outline
  go_loopw [3, 4] (fun vo i wr => ∃ (k : Nat) (ks : List Bs), k ≤ l.length ∧ i = .int .i64 k ∧ wr.ownsRow w.heap.size 9 1 vo ks.length (cellsK ks) ∧ 4 ≤ ks.length ∧ ks.length ≤ 4 + 10 * k ∧ Below w.heap.size w wr) (fun _ i _ => l.length - (intOf i).toNat)
  case atStart => exact ⟨0, [[], [0], [97], [255]], Nat.zero_le _, rfl, hown0.out, by decide, by decide, (Below.refl _ w).alloc (Nat.le_refl _) _⟩
  case round =>
    obtain ⟨k, ks, hk, rfl, hown, hk4, hkk, hbel⟩ := hrel
    by_cases hlt : k < l.length
    · obtain ⟨rfl, c0, c1⟩ := HC.out k hlt
      have hgl := (HP.out (by rintro rfl; simp at hlt)).2
      have c0 := (hbel.cell (p := ⟨g, off + k * 2, none⟩) (by exact hgl)).trans c0
      have c1 := (hbel.cell (p := ⟨g, off + k * 2 + 1, none⟩) (by exact hgl)).trans c1
      have hss := Hs.out _ (List.getElem_mem hlt)
      have Hown := Lib.hid hown
      have Hbel := Lib.hid hbel
      clear hown hbel
      generalize hx : l[k] = x at *
      obtain ⟨sl, sh⟩ := x
      obtain ⟨hsl, hsh⟩ := hss
      simp only at hsl hsh c0 c1
      clear hx
      have hltz : (k : Int) < (l.length : Int) := by omega
      go_wp2
      go_cut [5] (fun s5 wx => ∃ eb, s5 = .slice (some ⟨eb, 0, none⟩) 2 2 ∧ Blk wx eb 9 #[.string (Str sl), .string (Str sh)] ∧ wx.ownsRow w.heap.size 9 1 u3 ks.length (cellsK ks) ∧ Below w.heap.size w wx)
      case first =>
        go_region
        all_goals (go_wp2_with fail; go_meet)
        all_goals exact ⟨_, rfl, (Blk.new wr _ _).drewN 1, owns_below Hown.out ((Below.refl _ wr).alloc (Nat.le_refl _) _).drew, (Hbel.out.alloc Hbel.out.size _).drew⟩
      case rest =>
        obtain ⟨eb, rfl, hEb, hown, hbel⟩ := hcut
        have HEb := Lib.hid hEb
        have Hown1 := Lib.hid hown
        have Hbel1 := Lib.hid hbel
        clear hEb hown hbel c0 c1
        have hdk : decide ((k : Int) < (l.length : Int)) = true := by simp; omega
        go_wp2
        go_loopw [3, 6] (fun vo i wz => ∃ (j : Nat) (kz : List Bs), j ≤ 2 ∧ i = .int .i64 j ∧ wz.ownsRow w.heap.size 9 1 vo kz.length (cellsK kz) ∧ 4 ≤ kz.length ∧ kz.length ≤ 4 + 10 * k + 5 * j ∧ Below w.heap.size w wz ∧ Blk wz eb 9 #[.string (Str sl), .string (Str sh)]) (fun _ i _ => 2 - (intOf i).toNat)
        case atStart => exact ⟨0, ks, by omega, rfl, Hown1.out, hk4, by omega, Hbel1.out, HEb.out⟩
        case round =>
          obtain ⟨j, kz, hj, rfl, hown, hz4, hzk, hbel, hEb⟩ := hrel
          by_cases hj2 : j < 2
          · obtain ⟨ev, hev, hevl⟩ : ∃ ev : Bs, wr.cell? ⟨eb, j, none⟩ = some (.string (Str ev)) ∧ ev.length ≤ 100 := by
              match j, hj2 with
              | 0, _ => exact ⟨sl, hEb.c0 0 _ rfl, hsl⟩
              | 1, _ => exact ⟨sh, hEb.c0 1 _ rfl, hsh⟩
            have HEb2 := Lib.hid hEb
            have Hown2 := Lib.hid hown
            have Hbel2 := Lib.hid hbel
            clear hEb hown hbel
            cases hem : ev with
            | nil =>
              subst hem
              go_wp2_with (at_builtin; refine wpList_append_own _ rfl _ _ 32 rfl w.heap.size 9 i0 (.string ⟨#[]⟩) 1 16 Try.underlying32 hi hz0 hz1 hz2 rfl (by decide) _ _ _ rfl (Hown2.out.alloc _) ⟨wr.heap.size, 0, none⟩ 3 3 [.string _, .string _, .string _] rfl rfl (cells_new' _ _ _ (by simp)) (by intro u hu; simp at hu; rcases hu with rfl | rfl | rfl <;> rfl) (by unfold maxLen; omega) (by omega) (by have := Hbel2.out.size; simp; omega) ?_; intro v' w2 hown' hgrow _)
              have hst := Lib.hid (near_step hgrow ((Below.refl _ wr).alloc (Nat.le_refl _) _) HEb2.out Hown2.out (by omega) Hbel2.out (Nat.le_refl _))
              have Hm := Lib.hid (own_more3 (n := 0) hown')
              clear hown' hgrow hev
              go_wp2
              go_roundw
              case rel =>
                obtain ⟨k2, hk2, ho2⟩ := Hm.out
                exact ⟨j + 1, k2, by omega, by go_num, ho2, by omega, by omega, hst.out.2, hst.out.1⟩
              case measure => simp [intOf]; omega
            | cons ec er =>
              have hpos : 0 < ev.length := by rw [hem]; simp
              have hposz : (0 : Int) < (ev.length : Int) := by omega
              clear hem
              go_wp2_with (at_builtin; refine wpList_append_own _ rfl _ _ 32 rfl w.heap.size 9 i0 (.string ⟨#[]⟩) 1 16 Try.underlying32 hi hz0 hz1 hz2 rfl (by decide) _ _ _ rfl (Hown2.out.alloc _) ⟨wr.heap.size, 0, none⟩ 3 3 [.string _, .string _, .string _] rfl rfl (cells_new' _ _ _ (by simp)) (by intro u hu; simp at hu; rcases hu with rfl | rfl | rfl <;> rfl) (by unfold maxLen; omega) (by omega) (by have := Hbel2.out.size; simp; omega) ?_; intro v' w2 hown' hgrow _)
              have hst := near_step hgrow ((Below.refl _ wr).alloc (Nat.le_refl _) _) HEb2.out Hown2.out (by omega) Hbel2.out (Nat.le_refl _)
              obtain ⟨k2, hk2, ho2⟩ := own_more3 (n := 0) hown'
              have Hst := Lib.hid hst
              have Ho2 := Lib.hid ho2
              clear hown' hgrow hev hst ho2
              have hb2 := Hst.out.2.size
              have hwr : IntKind.i64.wrap ((ev.length : Int) - 1) = (ev.length : Int) - 1 := by rw [IntKind.wrap_i64]; omega
              have hg0 : (0 : Int) ≤ (ev.length : Int) - 1 := by omega
              have hg5 : (1 : Int) ≤ (ev.length : Int) := by omega
              have hg6 : ¬ 9223372036854775807 < ev.length - 1 + 1 := by omega
              have hg7 : ¬ 9223372036854775807 < ev.length - 1 + 1 + 1 := by omega
              have hg8 : ev.length - 1 + 1 ≤ 9223372036854775807 := by omega
              have hg9 : ev.length - 1 + 1 + 1 ≤ 9223372036854775807 := by omega
              have hg1 : (ev.length : Int) - 1 ≤ (ev.length : Int) := by omega
              have hg2 : (ev.length : Int) - 1 < (ev.length : Int) := by omega
              have hg3 : ((ev.length : Int) - 1).toNat = ev.length - 1 := by omega
              have hg4 : ev.length - 1 < ev.length := by omega
              go_wp2_with fail
              go_region_law (refine step_own rfl _ _ 32 rfl w.heap.size 9 i0 (.string ⟨#[]⟩) 1 16 Try.underlying32 hi hz0 hz1 hz2 rfl (by decide) v' k2.length (cellsK k2) (by simp [Act.eval, Act.put]) (owns_below Ho2.out (by repeat (first | with_reducible exact Below.refl _ _ | with_reducible refine Below.drew ?_ | with_reducible refine Below.alloc ?_ ?_ _ | exact Nat.le_refl _ | (simp only [World.size_alloc, World.size_drew]; omega)))) _ 2 2 [.string _, .string _] (by simp [Act.eval, Act.put]; rfl) rfl (cells_new' _ _ _ (by simp)) (by intro u hu; simp at hu; rcases hu with rfl | rfl <;> rfl) (by unfold maxLen; omega) (by omega) (by simp only [World.size_alloc, World.size_drew]; omega) ?_; intro v3 w3 hown3 hgrow3)
              all_goals
                have hst3 := Lib.hid (near_step hgrow3 (by repeat (first | with_reducible exact Below.refl _ _ | with_reducible refine Below.drew ?_ | with_reducible refine Below.alloc ?_ ?_ _ | exact Nat.le_refl _ | (simp only [World.size_alloc, World.size_drew]; omega))) Hst.out.1 Ho2.out (by omega) Hst.out.2 (Nat.le_refl _))
                have Hm := Lib.hid (own_more2 (n := 0) hown3)
                clear hown3 hgrow3
                go_wp2
                go_roundw
                case rel =>
                  obtain ⟨k3, hk3, ho3⟩ := Hm.out
                  exact ⟨j + 1, k3, by omega, by go_num, ho3, by omega, by omega, hst3.out.2, hst3.out.1⟩
                case measure => simp [intOf]; omega
          · obtain rfl : j = 2 := by omega
            have Hown2 := Lib.hid hown
            have Hbel2 := Lib.hid hbel
            clear hown hbel hEb
            go_wp2
            go_roundw
            case rel => exact ⟨k + 1, kz, by omega, by go_num, Hown2.out, by omega, by omega, Hbel2.out⟩
            case measure => simp [intOf]; omega
    · have hltz : (l.length : Int) ≤ (k : Int) := by omega
      have Hown := Lib.hid hown
      have Hbel := Lib.hid hbel
      clear hown hbel
      go_wp2
      go_ret
      exact ⟨_, ks, rfl, Hown.out, by omega, Hbel.out⟩

end Go.Proofs.Ytenhjpopdmiekaa

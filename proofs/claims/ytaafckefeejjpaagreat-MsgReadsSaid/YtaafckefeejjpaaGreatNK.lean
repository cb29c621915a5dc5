/-
  Walks: two prefixes beside the fixed examples.
-/
import Derived.Test.YtaafckefeejjpaaGreatNG
namespace Go.Proofs.YtaafckefeejjpaaGreat
open Go.RowKit Go.Sort
set_option linter.unusedVariables false
attribute [local go_sem ↓] Go.wp_at_zero Go.wp_at_succ

/-- The examples, and two prefixes. -/
structure San2 (w : World) (n0 n1 n2 n3 n4 n5 n6 k9 k10 : Nat) (wx : World) : Prop where
  s : SanSt w n0 n1 n2 n3 n4 n5 n6 wx
  a : Blk wx k9 45 #[.string ⟨#[97, 47]⟩, .string ⟨#[97, 48]⟩]
  b : Blk wx k10 45 #[.string ⟨#[98, 47]⟩, .string ⟨#[98, 48]⟩]
section
variable {w wx wy : World} {n0 n1 n2 n3 n4 n5 n6 k9 k10 : Nat}
theorem San2.below (h : San2 w n0 n1 n2 n3 n4 n5 n6 k9 k10 wx) (hb : Below wx.heap.size wx wy) : San2 w n0 n1 n2 n3 n4 n5 n6 k9 k10 wy := ⟨h.s.below hb, h.a.below hb h.a.lt, h.b.below hb h.b.lt⟩
theorem San2.alloc (h : San2 w n0 n1 n2 n3 n4 n5 n6 k9 k10 wx) (o : Obj) : San2 w n0 n1 n2 n3 n4 n5 n6 k9 k10 (wx.alloc o) := h.below (below_box _)
theorem San2.drew (h : San2 w n0 n1 n2 n3 n4 n5 n6 k9 k10 wx) : San2 w n0 n1 n2 n3 n4 n5 n6 k9 k10 wx.drew := h.below (below_drewN wx 1)
end
theorem IsSpans.alloc {w : World} {v : Value} {l : List Sp} (h : IsSpans w v l) (o : Obj) : IsSpans (w.alloc o) v l := h.below (below_box _)
theorem IsSpans.drew {w : World} {v : Value} {l : List Sp} (h : IsSpans w v l) : IsSpans w.drew v l := h.below (below_drewN w 1)
theorem spans_below {w w' : World} {v : Value} {l : List Sp} (hb : Below w.heap.size w w') (h : IsSpans w v l) : IsSpans w' v l := h.below hb
theorem sc_one (w : World) : Calls Tryz.prog 66 #[.string ⟨#[97, 47, 122]⟩] w fun e w' => e = .returned (.agg #[.string ⟨#[97, 47, 122]⟩, .string ⟨#[97, 47, 122, 0]⟩]) ∧ Below w.heap.size w w' :=
  (rone_w [97, 47, 122] w (by decide)).mono fun e w' ⟨h1, h2⟩ => ⟨h1, h2.below (Nat.le_refl _)⟩
theorem new_so {n : Nat} (W : World) (hn : n = W.heap.size) : IsSpans (W.alloc (.cells #[.string ⟨#[97, 47, 122]⟩, .string ⟨#[97, 47, 122, 0]⟩] 45)) (.slice (some ⟨n, 0, none⟩) 1 1) [([97, 47, 122], [97, 47, 122, 0])] := one_spans ([97, 47, 122], [97, 47, 122, 0]) 45 hn
theorem new_sa {n : Nat} (W : World) (hn : n = W.heap.size) : IsSpans (W.alloc (.cells #[.string ⟨#[97, 47]⟩, .string ⟨#[97, 48]⟩] 45)) (.slice (some ⟨n, 0, none⟩) 1 1) [([97, 47], [97, 48])] := one_spans ([97, 47], [97, 48]) 45 hn
theorem new_sb {n : Nat} (W : World) (hn : n = W.heap.size) : IsSpans (W.alloc (.cells #[.string ⟨#[98, 47]⟩, .string ⟨#[98, 48]⟩] 45)) (.slice (some ⟨n, 0, none⟩) 1 1) [([98, 47], [98, 48])] := one_spans ([98, 47], [98, 48]) 45 hn
theorem new_ss {n : Nat} (W : World) (hn : n = W.heap.size) : IsSpans (W.alloc (.cells #[.string ⟨#[98]⟩, .string ⟨#[]⟩] 45)) (.slice (some ⟨n, 0, none⟩) 1 1) [([98], [])] := one_spans ([98], []) 45 hn
theorem new_sab {n : Nat} (W : World) (hn : n = W.heap.size) : IsSpans (W.alloc (.cells #[.string ⟨#[97, 47]⟩, .string ⟨#[97, 48]⟩, .string ⟨#[98, 47]⟩, .string ⟨#[98, 48]⟩] 45)) (.slice (some ⟨n, 0, none⟩) 2 2) [([97, 47], [97, 48]), ([98, 47], [98, 48])] := two_spans ([97, 47], [97, 48]) ([98, 47], [98, 48]) 45 hn

end Go.Proofs.YtaafckefeejjpaaGreat

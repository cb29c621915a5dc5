/-
  Walks: what a law keeps while it calls: lists of pairs as values, all readable.
-/
import Derived.Test.YtbbiobhffelaaaaTWG
import Derived.Test.YtbbiobhffelaaaaTF
import Derived.Test.YtbbiobhffelaaaaTS2
namespace Go.Proofs.Ytbbiobhffelaaaa
open Go.RowKit Go.Sort
set_option linter.unusedVariables false

/-- The fixed examples come out true. -/
def SanityW : Prop := ∀ w, Calls Try.prog 10 #[] w fun e w' => e = .returned (.bool true) ∧ Below w.heap.size w w'

/-- Nothing that was there has changed, and these values are these lists. -/
structure St (w : World) (L : List (Value × List Pr)) (wx : World) : Prop where
  g : Below w.heap.size w wx
  p : ∀ x ∈ L, IsPairs wx x.1 x.2
section
variable {w wx wy : World} {L : List (Value × List Pr)}
theorem St.below (h : St w L wx) (hb : Below wx.heap.size wx wy) : St w L wy := ⟨h.g.trans (hb.mono h.g.size), fun x hx => (h.p x hx).below hb⟩
theorem St.alloc (h : St w L wx) (o : Obj) : St w L (wx.alloc o) := h.below (below_box _)
theorem St.drew (h : St w L wx) : St w L wx.drew := h.below (below_drewN wx 1)
theorem St.start (h : Below w.heap.size w wx) : St w [] wx := ⟨h, fun x hx => by cases hx⟩
theorem St.at (h : St w L wx) {v : Value} {l : List Pr} (hm : (v, l) ∈ L) : IsPairs wx v l := h.p _ hm
theorem St.add (h : St w L wx) {v : Value} {l : List Pr} (hp : IsPairs wx v l) : St w ((v, l) :: L) wx := ⟨h.g, fun x hx => by
  rcases List.mem_cons.1 hx with rfl | hx
  · exact hp
  · exact h.p x hx⟩
theorem St.sub {M : List (Value × List Pr)} (h : St w L wx) (hs : ∀ x ∈ M, x ∈ L) : St w M wx := ⟨h.g, fun x hx => h.p x (hs x hx)⟩
/-- A list comes back. -/
def StOut (w : World) (L : List (Value × List Pr)) (l : List Pr) (e : Ending) (w' : World) : Prop := ∃ p cap, e = .returned (.slice p l.length cap) ∧ St w ((.slice p l.length cap, l) :: L) w'
theorem OwnOut.st {l : List Pr} {e : Ending} {w' : World} (hs : St w L wx) (h : OwnOut wx.heap.size wx l e w') : StOut w L l e w' := by
  obtain ⟨v', h1, -, h3, h4⟩ := h
  obtain ⟨-, -, cap, p, rfl, -⟩ := h3.form
  exact ⟨p, cap, h1, (hs.below h4).add h3⟩
theorem st_made (h : St w L wx) {v : Value} {l : List Rw} (hr : IsRaws w v l) : Calls Try.prog 11 #[v] wx (StOut w L (madeS l)) := (made_w v l wx (hr.below h.g)).mono fun _ _ hh => OwnOut.st h hh
theorem st_union (h : St w L wx) {va vb : Value} (a b : List Pr) (ha : (va, a) ∈ L) (hb : (vb, b) ∈ L) (sa : Srt a) (sb : Srt b) (la : a.length ≤ 20000) (lb : b.length ≤ 20000) : Calls Try.prog 25 #[va, vb] wx (StOut w L (unionS a b)) :=
  (union_w va vb a b wx (h.at ha) (h.at hb) sa sb la lb).mono fun _ _ hh => OwnOut.st h hh
theorem st_union_nil (h : St w L wx) {va : Value} (a : List Pr) (ha : (va, a) ∈ L) (sa : Srt a) (la : a.length ≤ 20000) : Calls Try.prog 25 #[va, .slice none 0 0] wx (StOut w L a) :=
  (union_w va _ a [] wx (h.at ha) (IsPairs.nil _) sa srt_nil la (by simp)).mono fun _ _ hh => OwnOut.st h hh
theorem st_nil_union (h : St w L wx) {va : Value} (a : List Pr) (ha : (va, a) ∈ L) (sa : Srt a) (la : a.length ≤ 20000) : Calls Try.prog 25 #[.slice none 0 0, va] wx (StOut w L a) :=
  (union_w _ va [] a wx (IsPairs.nil _) (h.at ha) srt_nil sa (by simp) la).mono fun _ _ hh => OwnOut.st h (by rw [nil_union sa] at hh; exact hh)
theorem st_same (h : St w L wx) {va vb : Value} (a b : List Pr) (ha : (va, a) ∈ L) (hb : (vb, b) ∈ L) : Calls Try.prog 17 #[va, vb] wx fun e w' => e = .returned (.bool (decide (a = b))) ∧ St w L w' :=
  (same_w va vb a b wx (h.at ha) (h.at hb)).mono fun _ _ ⟨h1, _, h2⟩ => ⟨h1, by rw [h2]; exact h.below (below_drewN _ _)⟩
theorem st_rvalid (h : St w L wx) {va : Value} (a : List Pr) (ha : (va, a) ∈ L) (la : a.length ≤ 20000) : Calls Try.prog 31 #[va] wx fun e w' => e = .returned (.bool (validB a)) ∧ St w L w' :=
  (rvalid_w va a wx (h.at ha) (by omega)).mono fun _ _ ⟨h1, _, h2⟩ => ⟨h1, by rw [h2]; exact h.below (below_drewN _ _)⟩
theorem st_rfind (h : St w L wx) {va : Value} (a : List Pr) (k : Bs) (ha : (va, a) ∈ L) (la : a.length ≤ 20000) : Calls Try.prog 16 #[va, .string (Str k)] wx fun e w' => e = .returned (findV a k) ∧ St w L w' :=
  (rfind_w va a k wx (h.at ha) (by omega)).mono fun _ _ ⟨h1, h2⟩ => ⟨h1, h.below h2⟩
end

end Go.Proofs.Ytbbiobhffelaaaa

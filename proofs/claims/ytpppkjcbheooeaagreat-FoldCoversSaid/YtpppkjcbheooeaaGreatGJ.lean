/-
  What a law of package fold keeps while it calls: tables, lists of messages, lists of spans, each in its own memory.
-/
import Derived.Test.YtpppkjcbheooeaaGreatFYI
import Derived.Test.YtpppkjcbheooeaaGreatGAB
namespace Go.Proofs.YtpppkjcbheooeaaGreat
open Go.RowKit Go.Sort
set_option linter.unusedVariables false

/-- What is known of the lists that were handed back. -/
structure Sx (w : World) (L : List (Value × List Pr)) (M : List (Value × List Ms)) (D : List (Value × List Sp)) (wx : World) : Prop where
  g : Below w.heap.size w wx
  p : ∀ x ∈ L, IsPairs wx x.1 x.2
  m : ∀ x ∈ M, IsMsgs wx x.1 x.2
  s : ∀ x ∈ D, IsSpans wx x.1 x.2
section
variable {w wx wy : World} {L : List (Value × List Pr)} {M : List (Value × List Ms)} {D : List (Value × List Sp)}
theorem Sx.below (h : Sx w L M D wx) (hb : Below wx.heap.size wx wy) : Sx w L M D wy := ⟨h.g.trans (hb.mono h.g.size), fun x hx => (h.p x hx).below hb, fun x hx => (h.m x hx).below hb, fun x hx => (h.s x hx).below hb⟩
theorem Sx.alloc (h : Sx w L M D wx) (o : Obj) : Sx w L M D (wx.alloc o) := h.below (below_box _)
theorem Sx.start (h : Below w.heap.size w wx) : Sx w [] [] [] wx := ⟨h, (fun x hx => by cases hx), (fun x hx => by cases hx), (fun x hx => by cases hx)⟩
theorem Sx.addP (h : Sx w L M D wx) {v : Value} {l : List Pr} (hp : IsPairs wx v l) : Sx w ((v, l) :: L) M D wx := ⟨h.g, fun x hx => by
  rcases List.mem_cons.1 hx with rfl | hx
  · exact hp
  · exact h.p x hx, h.m, h.s⟩
theorem Sx.addM (h : Sx w L M D wx) {v : Value} {l : List Ms} (hp : IsMsgs wx v l) : Sx w L ((v, l) :: M) D wx := ⟨h.g, h.p, fun x hx => by
  rcases List.mem_cons.1 hx with rfl | hx
  · exact hp
  · exact h.m x hx, h.s⟩
theorem Sx.addS (h : Sx w L M D wx) {v : Value} {l : List Sp} (hp : IsSpans wx v l) : Sx w L M ((v, l) :: D) wx := ⟨h.g, h.p, h.m, fun x hx => by
  rcases List.mem_cons.1 hx with rfl | hx
  · exact hp
  · exact h.s x hx⟩
def SxP (w : World) (L : List (Value × List Pr)) (M : List (Value × List Ms)) (D : List (Value × List Sp)) (R : List Pr) (e : Ending) (w' : World) : Prop :=
  ∃ p c, e = .returned (.slice p R.length c) ∧ Sx w ((.slice p R.length c, R) :: L) M D w'
def SxM (w : World) (L : List (Value × List Pr)) (M : List (Value × List Ms)) (D : List (Value × List Sp)) (R : List Ms) (e : Ending) (w' : World) : Prop :=
  ∃ p c, e = .returned (.slice p R.length c) ∧ Sx w L ((.slice p R.length c, R) :: M) D w'
def SxS (w : World) (L : List (Value × List Pr)) (M : List (Value × List Ms)) (D : List (Value × List Sp)) (R : List Sp) (e : Ending) (w' : World) : Prop :=
  ∃ p c, e = .returned (.slice p R.length c) ∧ Sx w L M ((.slice p R.length c, R) :: D) w'
def SxL (w : World) (L : List (Value × List Pr)) (M : List (Value × List Ms)) (D : List (Value × List Sp)) (R : List Ms) (E : List Sp) (e : Ending) (w' : World) : Prop :=
  ∃ p c q k, e = .returned (.tuple #[.slice p R.length c, .slice q E.length k]) ∧ Sx w L ((.slice p R.length c, R) :: M) ((.slice q E.length k, E) :: D) w'
def SxB (w : World) (L : List (Value × List Pr)) (M : List (Value × List Ms)) (D : List (Value × List Sp)) (b : Bool) (e : Ending) (w' : World) : Prop := e = .returned (.bool b) ∧ Sx w L M D w'
theorem OwnOut.sx (h : Sx w L M D wx) {R : List Pr} {e : Ending} {w' : World} (k : OwnOut wx.heap.size wx R e w') : SxP w L M D R e w' := by
  obtain ⟨v, he, -, hp, hb⟩ := k
  obtain ⟨p, c, rfl, -⟩ := id hp
  exact ⟨_, _, he, (h.below hb).addP hp⟩
theorem MsOut.sx (h : Sx w L M D wx) {R : List Ms} {e : Ending} {w' : World} (k : MsOut wx R e w') : SxM w L M D R e w' := by
  obtain ⟨v, he, hp, hb⟩ := k
  obtain ⟨p, c, rfl, -⟩ := id hp
  exact ⟨_, _, he, (h.below hb).addM hp⟩
theorem sx_made (h : Sx w L M D wx) {v : Value} {l : List Rw} (hv : T4.IsRaws wx v l) (R : List Pr) (hR : R = T4.madeS l) : Calls Tryz.prog 31 #[v] wx (SxP w L M D R) := by
  subst hR
  exact (T4.made_w v l wx hv).mono fun _ _ k => k.sx h
theorem sx_list (h : Sx w L M D wx) {v : Value} {l : List R6} (hv : IsR6s wx v l) (n : Nat) (hn : n ≤ 100) (R : List Ms) (hR : R = listS l n) : Calls Tryz.prog 22 #[v, .int .i64 n] wx (SxM w L M D R) := by
  subst hR
  refine (list_w v l n wx hv hn).mono fun e w' ⟨v', he, ho, hb⟩ => ?_
  exact MsOut.sx h ⟨v', he, ho.msgs, hb⟩
theorem sx_all (h : Sx w L M D wx) {v u : Value} (T : List Pr) (ms : List Ms) (R : List Pr) (hR : R = allS ms T) (hv : (v, T) ∈ L) (hu : (u, ms) ∈ M) (hs : Srt T) (hz : ∀ m ∈ ms, Ok m) (ok : OkAll ms T) :
    Calls Tryz.prog 33 #[v, u] wx (SxP w L M D R) := by
  subst hR
  exact (all_w v u T ms wx (h.p _ hv) (h.m _ hu) hs (fun m hm => (hz m hm).1) ok).mono fun _ _ k => k.sx h
theorem sx_reduce (h : Sx w L M D wx) {v : Value} (ms R : List Ms) (hR : R = reduceS ms) (hv : (v, ms) ∈ M) (hz : ∀ m ∈ ms, Ok m) (hl : ms.length ≤ 50) : Calls Tryz.prog 27 #[v] wx (SxM w L M D R) := by
  subst hR
  exact (reduce_w v ms wx (h.m _ hv) hz hl).mono fun _ _ k => k.sx h
theorem sx_merge (h : Sx w L M D wx) {v u : Value} (a b R : List Ms) (hR : R = mergeM a b) (hv : (v, a) ∈ M) (hu : (u, b) ∈ M) (ha : ∀ m ∈ a, Ok m) (hb : ∀ m ∈ b, Ok m) (hl : a.length + b.length ≤ 50) : Calls Tryz.prog 29 #[v, u] wx (SxM w L M D R) := by
  subst hR
  exact (merge_w v u a b wx (h.m _ hv) (h.m _ hu) ha hb hl).mono fun _ _ k => k.sx h
theorem sx_live (h : Sx w L M D wx) {v u : Value} (ms : List Ms) (d : List Sp) (R : List Ms) (E : List Sp) (hR : R = (liveS ms d).1) (hE : E = (liveS ms d).2) (hv : (v, ms) ∈ M) (hu : IsSpans wx u d) (hz : ∀ m ∈ ms, Ok m) (hl : ms.length ≤ 50) (hd : d.length ≤ 200) :
    Calls Tryz.prog 23 #[v, u] wx (SxL w L M D R E) := by
  subst hR hE
  refine (live_any v u ms d wx (h.m _ hv) hz hu hl hd).mono fun e w' ⟨v1, v2, he, h1, h2, hb⟩ => ?_
  obtain ⟨p, c, rfl, -⟩ := id h1
  obtain ⟨q, k, rfl, -⟩ := id h2
  exact ⟨_, _, _, _, he, ((h.below hb).addM h1).addS h2⟩
theorem sx_same (h : Sx w L M D wx) {v u : Value} (a b : List Pr) (e : a = b) (hv : (v, a) ∈ L) (hu : (u, b) ∈ L) : Calls Tryz.prog 32 #[v, u] wx (SxB w L M D true) :=
  (T4.same_w v u a b wx (h.p _ hv) (h.p _ hu)).mono fun _ _ ⟨h1, n, h2⟩ => ⟨by rw [h1, e]; simp, by rw [h2]; exact h.below (below_drewN wx n)⟩
theorem sx_fsame (h : Sx w L M D wx) {v u : Value} (a b : List Ms) (hv : IsMsgs wx v a) (hu : IsMsgs wx u b) : Calls Tryz.prog 25 #[v, u] wx (SxB w L M D (decide (a = b))) :=
  (fsame_w v u a b wx hv hu).mono fun _ _ ⟨h1, n, h2⟩ => ⟨h1, by rw [h2]; exact h.below (below_drewN wx n)⟩
theorem sx_fspans (h : Sx w L M D wx) {v u : Value} (a b : List Sp) (hv : (v, a) ∈ D) (hu : (u, b) ∈ D) : Calls Tryz.prog 26 #[v, u] wx (SxB w L M D (decide (a = b))) :=
  (fspans_w v u a b wx (h.s _ hv) (h.s _ hu)).mono fun _ _ ⟨h1, n, h2⟩ => ⟨h1, by rw [h2]; exact h.below (below_drewN wx n)⟩
theorem sx_outside (h : Sx w L M D wx) {v u : Value} (t : List Pr) (d : List Sp) (R : List Pr) (hR : R = withoutS d t) (hv : (v, t) ∈ L) (hu : (u, d) ∈ D) (hl : t.length ≤ 500000000) : Calls Tryz.prog 35 #[v, u] wx (SxP w L M D R) := by
  subst hR
  exact (outside_w v u t d wx (h.p _ hv) (h.s _ hu) hl).mono fun _ _ k => k.sx h
theorem sx_inside (h : Sx w L M D wx) {v u : Value} (t : List Pr) (d : List Sp) (R : List Pr) (hR : R = withinS d t) (hv : (v, t) ∈ L) (hu : (u, d) ∈ D) (hl : t.length ≤ 500000000) : Calls Tryz.prog 38 #[v, u] wx (SxP w L M D R) := by
  subst hR
  exact (inside_w v u t d wx (h.p _ hv) (h.s _ hu) hl).mono fun _ _ k => k.sx h
theorem sx_union (h : Sx w L M D wx) {v u : Value} (a b R : List Pr) (hR : R = unionS a b) (hv : (v, a) ∈ L) (hu : (u, b) ∈ L) (sa : Srt a) (sb : Srt b) (la : a.length ≤ 200000000) (lb : b.length ≤ 200000000) : Calls Tryz.prog 37 #[v, u] wx (SxP w L M D R) := by
  subst hR
  exact (union_w v u a b wx (h.p _ hv) (h.p _ hu) sa sb la lb).mono fun _ _ k => k.sx h
end

end Go.Proofs.YtpppkjcbheooeaaGreat

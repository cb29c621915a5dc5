/-
  Walks: the region of reference 10's Made that appends to the last two lists of the node.
-/
import Derived.Test.YtmbfghbhajmpiaaGreatYDM
import Derived.Deep.RegionHeld3
namespace Go.Proofs.YtmbfghbhajmpiaaGreat
open Go.RowKit Go.Sort
set_option linter.unusedVariables false

theorem len_one {α : Type} (l : List α) (x : α) : (l ++ [x]).length = l.length + 1 := by simp
theorem blk_next (T : TypeId) (cs : Array Value) (w : World) (n : Nat) (h : n = w.heap.size) : Blk (w.alloc (.cells cs T)) n T cs := by subst h; exact Blk.new _ _ _
noncomputable def regM17 : Code := ((Tryz.f14.body.bind (codeReg 17)).getD .skip)
set_option maxRecDepth 100000 in
set_option maxHeartbeats 16000000 in
theorem regM17_w (w5 w : World) (X b sb k kid bk ok nk c2 B : Nat) (sm : Sm) (y0 y1 y4 vk vs vm : Value) (l : List Int) (m : List Sm) (lm : List Ms) (hBs : B = w5.heap.size)
    (hM0 : Mid w5 b sb #[y0, y1, vk, vs, y4] sm w) (hx1b : ∀ wx, Mid w5 b sb #[y0, y1, vk, vs, y4] sm wx → wx.cell? ⟨X, 1, none⟩ = some (.slice (some ⟨bk, ok, none⟩) nk c2))
    (hkb : ∀ wx, Mid w5 b sb #[y0, y1, vk, vs, y4] sm wx → wx.cell? ⟨bk, ok + k, none⟩ = some (.int .u8 kid)) (hklz : (k : Int) < (nk : Int)) (hnk : (nk : Int) ≤ 9223372036854775807) (hk256 : kid < 256)
    (hI0 : w.ownsRow B 3 1 vk l.length (l.flatMap encI)) (hU0 : w.ownsRow B 52 4 vs m.length (m.flatMap encSm)) (hO0 : OwnM w B vm lm)
    (hVS : ∀ j, vs.ownBlock = some j → j < sb) (hkl : l.length ≤ 1000000) (hsl : m.length ≤ 1000000)
    (s0 s2 s3 s4 s8 s9 s10 s11 s12 s13 s14 s15 s16 s17 s18 s19 s20 s21 s22 s23 s24 s25 s26 s27 s28 s29 s30 s31 s32 s33 s34 s35 s36 s37 s38 s39 s40 s41 s42 s43 s44 s45 s46 s47 s48 s49 s50 s51 s52 s53 s54 s55 s56 s57 s58 s59 s60 s61 s62 s63 s64 s65 s66 s67 s68 s69 s70 s71 s72 s73 s74 s75 s76 s77 s78 s79 s80 s81 s82 s83 s84 s85 s86 s87 s88 s89 s90 s91 s92 s93 s94 s95 s96 s97 s98 s99 s100 s101 s102 s103 s104 s105 s106 s107 s108 : Value) (Q : Exit → Act → World → Prop)
    (hQ : ∀ (t91 t92 t93 t94 t95 t96 t97 t98 t99 t100 t101 t102 t103 t104 t105 t106 t107 : Value) (p9 : Option Addr) (c9 : Nat) (p14 : Option Addr) (c14 : Nat) (wx : World), Mid w5 b sb #[y0, y1, vk, vs, y4] sm wx →
      wx.ownsRow B 3 1 (.slice p9 (l.length + 1) c9) (l.length + 1) ((l ++ [(kid : Int)]).flatMap encI) →
      wx.ownsRow B 52 4 (.slice p14 (m.length + 1) c14) (m.length + 1) ((m ++ [sm]).flatMap encSm) → OwnM wx B vm lm →
      Q .normal ⟨#[s0, .pointer (some ⟨X, 0, none⟩), s2, s3, s4, .pointer (some ⟨b, 0, none⟩), .int .i64 (k : Int), .pointer (some ⟨sb, 0, none⟩), s8, s9, s10, s11, s12, s13, s14, s15, s16, s17, s18, s19, s20, s21, s22, s23, s24, s25, s26, s27, s28, s29, s30, s31, s32, s33, s34, s35, s36, s37, s38, s39, s40, s41, s42, s43, s44, s45, s46, s47, s48, s49, s50, s51, s52, s53, s54, s55, s56, s57, s58, s59, s60, s61, s62, s63, s64, s65, s66, s67, s68, s69, s70, s71, s72, s73, s74, s75, s76, s77, s78, s79, s80, s81, s82, s83, s84, s85, s86, s87, s88, s89, s90, t91, t92, t93, t94, t95, t96, t97, t98, t99, t100, t101, t102, t103, t104, t105, t106, t107, s108], []⟩ ((wx.setCell ⟨b, 2, none⟩ (.slice p9 (l.length + 1) c9)).setCell ⟨b, 3, none⟩ (.slice p14 (m.length + 1) c14))) :
    regM17.wp Tryz.prog Q ⟨#[s0, .pointer (some ⟨X, 0, none⟩), s2, s3, s4, .pointer (some ⟨b, 0, none⟩), .int .i64 (k : Int), .pointer (some ⟨sb, 0, none⟩), s8, s9, s10, s11, s12, s13, s14, s15, s16, s17, s18, s19, s20, s21, s22, s23, s24, s25, s26, s27, s28, s29, s30, s31, s32, s33, s34, s35, s36, s37, s38, s39, s40, s41, s42, s43, s44, s45, s46, s47, s48, s49, s50, s51, s52, s53, s54, s55, s56, s57, s58, s59, s60, s61, s62, s63, s64, s65, s66, s67, s68, s69, s70, s71, s72, s73, s74, s75, s76, s77, s78, s79, s80, s81, s82, s83, s84, s85, s86, s87, s88, s89, s90, s91, s92, s93, s94, s95, s96, s97, s98, s99, s100, s101, s102, s103, s104, s105, s106, s107, s108], []⟩ w := by
  have mixed := mixedA
  conv => arg 2; whnf
  have HQ := Lib.hid hQ
  have HMID := Lib.hid hM0
  have hF2 : ∀ wx, Mid w5 b sb #[y0, y1, vk, vs, y4] sm wx → wx.cell? ⟨b, 2, none⟩ = some vk := fun wx h => h.n.c0 2 _ rfl
  have hF3 : ∀ wx, Mid w5 b sb #[y0, y1, vk, vs, y4] sm wx → wx.cell? ⟨b, 3, none⟩ = some vs := fun wx h => h.n.c0 3 _ rfl
  have hs0 : ∀ wx, Mid w5 b sb #[y0, y1, vk, vs, y4] sm wx → wx.cell? ⟨sb, 0, none⟩ = some (.int .i64 sm.1.1) := fun wx h => h.s.c0 0 _ rfl
  have hs1 : ∀ wx, Mid w5 b sb #[y0, y1, vk, vs, y4] sm wx → wx.cell? ⟨sb, 1, none⟩ = some (.int .i64 sm.1.2) := fun wx h => h.s.c0 1 _ rfl
  have hs2 : ∀ wx, Mid w5 b sb #[y0, y1, vk, vs, y4] sm wx → wx.cell? ⟨sb, 2, none⟩ = some (.int .i64 sm.2.1) := fun wx h => h.s.c0 2 _ rfl
  have hs3 : ∀ wx, Mid w5 b sb #[y0, y1, vk, vs, y4] sm wx → wx.cell? ⟨sb, 3, none⟩ = some (.int .i64 sm.2.2) := fun wx h => h.s.c0 3 _ rfl
  have hcv : wrap64 (kid : Int) = (kid : Int) := by unfold wrap64; omega
  have hcv2 : IntKind.i64.wrap (kid : Int) = (kid : Int) := by rw [IntKind.wrap_i64]; omega
  have hI := own_drew hI0
  have hU := own_drew hU0
  have hO : OwnM _ _ _ _ := own_drew hO0
  clear hQ hM0 hI0 hU0 hO0
  refine wp_region_noPanic ?_
  refine region_T (n := 16) (S := Mid w5 b sb #[y0, y1, vk, vs, y4] sm) mixed HMID.out.drew (fun hHeld => ?_)
  have hM := hHeld
  clear hHeld
  generalize hwd : w.drew = wd at *
  clear hwd
  refine T_take (i := 0) (oi := _) (v := ?_) rfl (by kernel_rfl) (by kernel_rfl) (by kernel_rfl) (by kernel_rfl) (fun _ _ _ h => h) (Or.inl ⟨by kernel_rfl, ?_⟩) (by with_reducible assumption) ?_
  rotate_left
  · intro wt hSw
    go_simp
    all_goals with_reducible rfl
  try simp only [Act.put, List.setIfInBounds_toArray]
  refine T_take (i := 1) (oi := _) (v := ?_) rfl (by kernel_rfl) (by kernel_rfl) (by kernel_rfl) (by kernel_rfl) (fun _ _ _ h => h) (Or.inl ⟨by kernel_rfl, ?_⟩) (by with_reducible assumption) ?_
  rotate_left
  · intro wt hSw
    go_simp
    all_goals with_reducible rfl
  try simp only [Act.put]
  refine T_take (i := 2) (oi := _) (v := ?_) rfl (by kernel_rfl) (by kernel_rfl) (by kernel_rfl) (by kernel_rfl) (fun _ _ _ h => h) (Or.inl ⟨by kernel_rfl, ?_⟩) (by with_reducible assumption) ?_
  rotate_left
  · intro wt hSw
    go_simp
    all_goals with_reducible rfl
  try simp only [Act.put]
  refine T_take (i := 3) (oi := _) (v := ?_) rfl (by kernel_rfl) (by kernel_rfl) (by kernel_rfl) (by kernel_rfl) (fun _ _ _ h => h) (Or.inl ⟨by kernel_rfl, ?_⟩) (by with_reducible assumption) ?_
  rotate_left
  · intro wt hSw
    go_simp
    all_goals with_reducible rfl
  try simp only [Act.put]
  refine T_take (i := 4) (oi := _) (v := ?_) rfl (by kernel_rfl) (by kernel_rfl) (by kernel_rfl) (by kernel_rfl) (fun _ _ _ h => h) (Or.inl ⟨by kernel_rfl, ?_⟩) (by with_reducible assumption) ?_
  rotate_left
  · intro wt hSw
    go_simp
    all_goals with_reducible rfl
  try simp only [Act.put]
  refine T_take (i := 5) (oi := _) (v := ?_) rfl (by kernel_rfl) (by kernel_rfl) (by kernel_rfl) (by kernel_rfl) (fun _ _ _ h => h) (Or.inl ⟨by kernel_rfl, ?_⟩) (by with_reducible assumption) ?_
  rotate_left
  · intro wt hSw
    go_simp
    all_goals with_reducible rfl
  try simp only [Act.put]
  refine T_take (i := 6) (oi := _) (v := ?_) rfl (by kernel_rfl) (by kernel_rfl) (by kernel_rfl) (by kernel_rfl) (fun _ _ _ h => h) (Or.inl ⟨by kernel_rfl, ?_⟩) (by with_reducible assumption) ?_
  rotate_left
  · intro wt hSw
    go_simp
    all_goals with_reducible rfl
  try simp only [Act.put]
  refine T_take (i := 7) (oi := _) (v := ?_) rfl (by kernel_rfl) (by kernel_rfl) (by kernel_rfl) (by kernel_rfl) (fun _ _ _ h => h) (Or.inl ⟨by kernel_rfl, ?_⟩) (by with_reducible assumption) ?_
  rotate_left
  · intro wt hSw
    go_simp
    all_goals with_reducible rfl
  try simp only [Act.put]
  refine T_take (i := 10) (oi := _) (v := ?_) rfl (by kernel_rfl) (by kernel_rfl) (by kernel_rfl) (by kernel_rfl) (fun _ _ _ h => h) (Or.inl ⟨by kernel_rfl, ?_⟩) (by with_reducible assumption) ?_
  rotate_left
  · intro wt hSw
    go_simp
    all_goals with_reducible rfl
  try simp only [Act.put]
  refine T_take (i := 11) (oi := _) (v := ?_) rfl (by kernel_rfl) (by kernel_rfl) (by kernel_rfl) (by kernel_rfl) (fun _ _ _ h => h) (Or.inl ⟨by kernel_rfl, ?_⟩) (by with_reducible assumption) ?_
  rotate_left
  · intro wt hSw
    go_simp
    all_goals with_reducible rfl
  try simp only [Act.put]
  refine T_ready (rs := [8, 12]) (by kernel_rfl) (by simp) ?_
  refine AllT.cons (o := _) rfl (fun K hK => ?_) (AllT.cons (o := _) rfl (fun K hK => ?_) AllT.nil)
  · go_simp
    refine hK.out _ _ (fun _ => hM.alloc _) ?_
    clear hK K
    try simp only [List.setIfInBounds_toArray, List.set_cons_zero, List.set_cons_succ]
    have hi := hM.newBlk 3 #[.int .i64 (kid : Int)]
    replace hM := hM.alloc (Obj.cells #[.int .i64 (kid : Int)] 3)
    replace hI := own_alloc hI (Obj.cells #[.int .i64 (kid : Int)] 3)
    replace hU := own_alloc hU (Obj.cells #[.int .i64 (kid : Int)] 3)
    replace hO := own_alloc hO (Obj.cells #[.int .i64 (kid : Int)] 3)
    refine T_ready (rs := [9, 12]) (by kernel_rfl) (by simp) ?_
    refine AllT.cons (o := _) rfl (fun K hK => ?_) (AllT.cons (o := _) rfl (fun K hK => ?_) AllT.nil)
    · refine step_int rfl _ _ rfl B vk l rfl hI _ 1 (kid : Int) rfl (hi.c0 0 _ rfl) hkl (hBs ▸ hM.g.size) ?_
      intro v9 w9 ho9 hg9
      have hn9 := hM.own_int (hBs ▸ hI)
      refine hK.out _ _ (fun _ => hM.grown hg9 hn9.1 hn9.2.1 hn9.2.2) ?_
      clear hK K
      try simp only [List.setIfInBounds_toArray, List.set_cons_zero, List.set_cons_succ]
      replace hU := grown_own hU hg9 (own_own hI hU (by decide))
      replace hO := grown_own hO hg9 (own_own hI hO (by decide))
      replace hM := hM.grown hg9 hn9.1 hn9.2.1 hn9.2.2
      obtain ⟨p9, c9, rfl⟩ := own_slice ho9
      clear hi hI hg9 hn9
      refine T_take (i := 15) (oi := _) (v := ?_) rfl (by kernel_rfl) (by kernel_rfl) (by kernel_rfl) (by kernel_rfl) (fun _ _ _ h => h) (Or.inl ⟨by kernel_rfl, ?_⟩) (by with_reducible assumption) ?_
      rotate_left
      · intro wt hSw
        go_simp
        all_goals with_reducible rfl
      try simp only [Act.put, List.setIfInBounds_toArray]
      refine T_ready (rs := [12]) (by kernel_rfl) (by simp) ?_
      refine AllT.cons (o := _) rfl (fun K hK => ?_) AllT.nil
      go_simp
      refine hK.out _ _ (fun _ => hM) ?_
      clear hK K
      try simp only [List.setIfInBounds_toArray, List.set_cons_zero, List.set_cons_succ]
      refine T_ready (rs := [13]) (by kernel_rfl) (by simp) ?_
      refine AllT.cons (o := _) rfl (fun K hK => ?_) AllT.nil
      go_simp
      refine hK.out _ _ (fun _ => hM.alloc _) ?_
      clear hK K
      try simp only [List.setIfInBounds_toArray, List.set_cons_zero, List.set_cons_succ]
      have hu := hM.newBlk 52 #[.int .i64 sm.1.1, .int .i64 sm.1.2, .int .i64 sm.2.1, .int .i64 sm.2.2]
      replace hM := hM.alloc (Obj.cells #[.int .i64 sm.1.1, .int .i64 sm.1.2, .int .i64 sm.2.1, .int .i64 sm.2.2] 52)
      replace ho9 := own_alloc ho9 (Obj.cells #[.int .i64 sm.1.1, .int .i64 sm.1.2, .int .i64 sm.2.1, .int .i64 sm.2.2] 52)
      replace hU := own_alloc hU (Obj.cells #[.int .i64 sm.1.1, .int .i64 sm.1.2, .int .i64 sm.2.1, .int .i64 sm.2.2] 52)
      replace hO := own_alloc hO (Obj.cells #[.int .i64 sm.1.1, .int .i64 sm.1.2, .int .i64 sm.2.1, .int .i64 sm.2.2] 52)
      refine T_ready (rs := [14]) (by kernel_rfl) (by simp) ?_
      refine AllT.cons (o := _) rfl (fun K hK => ?_) AllT.nil
      refine step_sum rfl _ _ rfl B vs m rfl hU _ 1 sm rfl hu hsl (hBs ▸ hM.g.size) ?_
      intro v14 w14 ho14 hg14
      have hn14 := hM.own_sum (hBs ▸ hU) hVS
      refine hK.out _ _ (fun _ => hM.grown hg14 hn14.1 hn14.2.1 hn14.2.2) ?_
      clear hK K
      try simp only [List.setIfInBounds_toArray, List.set_cons_zero, List.set_cons_succ]
      replace hO := grown_own hO hg14 (own_own hU hO (by decide))
      replace ho9 := grown_own ho9 hg14 (own_own hU ho9 (by decide))
      replace hM := hM.grown hg14 hn14.1 hn14.2.1 hn14.2.2
      obtain ⟨p14, c14, rfl⟩ := own_slice ho14
      clear hu hU hg14 hn14
      have m2 := hM.n.c0 2 _ rfl
      have m3 := hM.n.c0 3 _ rfl
      have g2 := hM.n.free 2
      have g3 := hM.n.free 3
      refine T_ready (rs := [16]) (by kernel_rfl) (by simp) ?_
      refine AllT.cons (o := _) rfl (fun K hK => ?_) AllT.nil
      go_simp
      refine hK.out _ _ (fun h => absurd h (by decide)) ?_
      clear hK K
      try simp only [List.setIfInBounds_toArray, List.set_cons_zero, List.set_cons_succ]
      refine T_ready (rs := [17]) (by kernel_rfl) (by simp) ?_
      refine AllT.cons (o := _) rfl (fun K hK => ?_) AllT.nil
      go_simp
      refine hK.out _ _ (fun h => absurd h (by decide)) ?_
      clear hK K
      try simp only [List.setIfInBounds_toArray, List.set_cons_zero, List.set_cons_succ]
      refine T_ready (rs := [18]) (by kernel_rfl) (by simp) ?_
      refine AllT.cons (o := _) rfl (fun K hK => ?_) AllT.nil
      go_simp
      refine hK.out _ _ (fun h => absurd h (by decide)) ?_
      clear hK K
      try simp only [List.setIfInBounds_toArray, List.set_cons_zero, List.set_cons_succ]
      rw [len_one] at ho9 ho14
      exact T_done (by kernel_rfl) (NoPanic.normal (HQ.out _ _ _ _ _ _ _ _ _ _ _ _ _ _ _ _ _ _ _ _ _ _ hM ho9 ho14 hO)) _
    · go_simp
      refine hK.out _ _ (fun _ => hM) ?_
      clear hK K
      try simp only [List.setIfInBounds_toArray, List.set_cons_zero, List.set_cons_succ]
      refine T_ready (rs := [9, 13]) (by kernel_rfl) (by simp) ?_
      refine AllT.cons (o := _) rfl (fun K hK => ?_) (AllT.cons (o := _) rfl (fun K hK => ?_) AllT.nil)
      · refine step_int rfl _ _ rfl B vk l rfl hI _ 1 (kid : Int) rfl (hi.c0 0 _ rfl) hkl (hBs ▸ hM.g.size) ?_
        intro v9 w9 ho9 hg9
        have hn9 := hM.own_int (hBs ▸ hI)
        refine hK.out _ _ (fun _ => hM.grown hg9 hn9.1 hn9.2.1 hn9.2.2) ?_
        clear hK K
        try simp only [List.setIfInBounds_toArray, List.set_cons_zero, List.set_cons_succ]
        replace hU := grown_own hU hg9 (own_own hI hU (by decide))
        replace hO := grown_own hO hg9 (own_own hI hO (by decide))
        replace hM := hM.grown hg9 hn9.1 hn9.2.1 hn9.2.2
        obtain ⟨p9, c9, rfl⟩ := own_slice ho9
        clear hi hI hg9 hn9
        refine T_take (i := 15) (oi := _) (v := ?_) rfl (by kernel_rfl) (by kernel_rfl) (by kernel_rfl) (by kernel_rfl) (fun _ _ _ h => h) (Or.inl ⟨by kernel_rfl, ?_⟩) (by with_reducible assumption) ?_
        rotate_left
        · intro wt hSw
          go_simp
          all_goals with_reducible rfl
        try simp only [Act.put, List.setIfInBounds_toArray]
        refine T_ready (rs := [13]) (by kernel_rfl) (by simp) ?_
        refine AllT.cons (o := _) rfl (fun K hK => ?_) AllT.nil
        go_simp
        refine hK.out _ _ (fun _ => hM.alloc _) ?_
        clear hK K
        try simp only [List.setIfInBounds_toArray, List.set_cons_zero, List.set_cons_succ]
        have hu := hM.newBlk 52 #[.int .i64 sm.1.1, .int .i64 sm.1.2, .int .i64 sm.2.1, .int .i64 sm.2.2]
        replace hM := hM.alloc (Obj.cells #[.int .i64 sm.1.1, .int .i64 sm.1.2, .int .i64 sm.2.1, .int .i64 sm.2.2] 52)
        replace ho9 := own_alloc ho9 (Obj.cells #[.int .i64 sm.1.1, .int .i64 sm.1.2, .int .i64 sm.2.1, .int .i64 sm.2.2] 52)
        replace hU := own_alloc hU (Obj.cells #[.int .i64 sm.1.1, .int .i64 sm.1.2, .int .i64 sm.2.1, .int .i64 sm.2.2] 52)
        replace hO := own_alloc hO (Obj.cells #[.int .i64 sm.1.1, .int .i64 sm.1.2, .int .i64 sm.2.1, .int .i64 sm.2.2] 52)
        refine T_ready (rs := [14]) (by kernel_rfl) (by simp) ?_
        refine AllT.cons (o := _) rfl (fun K hK => ?_) AllT.nil
        refine step_sum rfl _ _ rfl B vs m rfl hU _ 1 sm rfl hu hsl (hBs ▸ hM.g.size) ?_
        intro v14 w14 ho14 hg14
        have hn14 := hM.own_sum (hBs ▸ hU) hVS
        refine hK.out _ _ (fun _ => hM.grown hg14 hn14.1 hn14.2.1 hn14.2.2) ?_
        clear hK K
        try simp only [List.setIfInBounds_toArray, List.set_cons_zero, List.set_cons_succ]
        replace hO := grown_own hO hg14 (own_own hU hO (by decide))
        replace ho9 := grown_own ho9 hg14 (own_own hU ho9 (by decide))
        replace hM := hM.grown hg14 hn14.1 hn14.2.1 hn14.2.2
        obtain ⟨p14, c14, rfl⟩ := own_slice ho14
        clear hu hU hg14 hn14
        have m2 := hM.n.c0 2 _ rfl
        have m3 := hM.n.c0 3 _ rfl
        have g2 := hM.n.free 2
        have g3 := hM.n.free 3
        refine T_ready (rs := [16]) (by kernel_rfl) (by simp) ?_
        refine AllT.cons (o := _) rfl (fun K hK => ?_) AllT.nil
        go_simp
        refine hK.out _ _ (fun h => absurd h (by decide)) ?_
        clear hK K
        try simp only [List.setIfInBounds_toArray, List.set_cons_zero, List.set_cons_succ]
        refine T_ready (rs := [17]) (by kernel_rfl) (by simp) ?_
        refine AllT.cons (o := _) rfl (fun K hK => ?_) AllT.nil
        go_simp
        refine hK.out _ _ (fun h => absurd h (by decide)) ?_
        clear hK K
        try simp only [List.setIfInBounds_toArray, List.set_cons_zero, List.set_cons_succ]
        refine T_ready (rs := [18]) (by kernel_rfl) (by simp) ?_
        refine AllT.cons (o := _) rfl (fun K hK => ?_) AllT.nil
        go_simp
        refine hK.out _ _ (fun h => absurd h (by decide)) ?_
        clear hK K
        try simp only [List.setIfInBounds_toArray, List.set_cons_zero, List.set_cons_succ]
        rw [len_one] at ho9 ho14
        exact T_done (by kernel_rfl) (NoPanic.normal (HQ.out _ _ _ _ _ _ _ _ _ _ _ _ _ _ _ _ _ _ _ _ _ _ hM ho9 ho14 hO)) _
      · go_simp
        refine hK.out _ _ (fun _ => hM.alloc _) ?_
        clear hK K
        try simp only [List.setIfInBounds_toArray, List.set_cons_zero, List.set_cons_succ]
        have hu := blk_next 52 #[.int .i64 sm.1.1, .int .i64 sm.1.2, .int .i64 sm.2.1, .int .i64 sm.2.2] (wd.alloc (.cells #[.int .i64 (kid : Int)] 3)) (wd.heap.size + 1) (by simp)
        replace hM := hM.alloc (Obj.cells #[.int .i64 sm.1.1, .int .i64 sm.1.2, .int .i64 sm.2.1, .int .i64 sm.2.2] 52)
        replace hI := own_alloc hI (Obj.cells #[.int .i64 sm.1.1, .int .i64 sm.1.2, .int .i64 sm.2.1, .int .i64 sm.2.2] 52)
        replace hU := own_alloc hU (Obj.cells #[.int .i64 sm.1.1, .int .i64 sm.1.2, .int .i64 sm.2.1, .int .i64 sm.2.2] 52)
        replace hO := own_alloc hO (Obj.cells #[.int .i64 sm.1.1, .int .i64 sm.1.2, .int .i64 sm.2.1, .int .i64 sm.2.2] 52)
        replace hi := hi.alloc (Obj.cells #[.int .i64 sm.1.1, .int .i64 sm.1.2, .int .i64 sm.2.1, .int .i64 sm.2.2] 52)
        refine T_ready (rs := [9]) (by kernel_rfl) (by simp) ?_
        refine AllT.cons (o := _) rfl (fun K hK => ?_) AllT.nil
        refine step_int rfl _ _ rfl B vk l rfl hI _ 1 (kid : Int) rfl (hi.c0 0 _ rfl) hkl (hBs ▸ hM.g.size) ?_
        intro v9 w9 ho9 hg9
        have hn9 := hM.own_int (hBs ▸ hI)
        refine hK.out _ _ (fun _ => hM.grown hg9 hn9.1 hn9.2.1 hn9.2.2) ?_
        clear hK K
        try simp only [List.setIfInBounds_toArray, List.set_cons_zero, List.set_cons_succ]
        replace hU := grown_own hU hg9 (own_own hI hU (by decide))
        replace hO := grown_own hO hg9 (own_own hI hO (by decide))
        replace hu := grown_blk hu hg9 (own_type hI hu (by decide))
        replace hM := hM.grown hg9 hn9.1 hn9.2.1 hn9.2.2
        obtain ⟨p9, c9, rfl⟩ := own_slice ho9
        clear hi hI hg9 hn9
        refine T_take (i := 15) (oi := _) (v := ?_) rfl (by kernel_rfl) (by kernel_rfl) (by kernel_rfl) (by kernel_rfl) (fun _ _ _ h => h) (Or.inl ⟨by kernel_rfl, ?_⟩) (by with_reducible assumption) ?_
        rotate_left
        · intro wt hSw
          go_simp
          all_goals with_reducible rfl
        try simp only [Act.put, List.setIfInBounds_toArray]
        refine T_ready (rs := [14]) (by kernel_rfl) (by simp) ?_
        refine AllT.cons (o := _) rfl (fun K hK => ?_) AllT.nil
        refine step_sum rfl _ _ rfl B vs m rfl hU _ 1 sm rfl hu hsl (hBs ▸ hM.g.size) ?_
        intro v14 w14 ho14 hg14
        have hn14 := hM.own_sum (hBs ▸ hU) hVS
        refine hK.out _ _ (fun _ => hM.grown hg14 hn14.1 hn14.2.1 hn14.2.2) ?_
        clear hK K
        try simp only [List.setIfInBounds_toArray, List.set_cons_zero, List.set_cons_succ]
        replace hO := grown_own hO hg14 (own_own hU hO (by decide))
        replace ho9 := grown_own ho9 hg14 (own_own hU ho9 (by decide))
        replace hM := hM.grown hg14 hn14.1 hn14.2.1 hn14.2.2
        obtain ⟨p14, c14, rfl⟩ := own_slice ho14
        clear hu hU hg14 hn14
        have m2 := hM.n.c0 2 _ rfl
        have m3 := hM.n.c0 3 _ rfl
        have g2 := hM.n.free 2
        have g3 := hM.n.free 3
        refine T_ready (rs := [16]) (by kernel_rfl) (by simp) ?_
        refine AllT.cons (o := _) rfl (fun K hK => ?_) AllT.nil
        go_simp
        refine hK.out _ _ (fun h => absurd h (by decide)) ?_
        clear hK K
        try simp only [List.setIfInBounds_toArray, List.set_cons_zero, List.set_cons_succ]
        refine T_ready (rs := [17]) (by kernel_rfl) (by simp) ?_
        refine AllT.cons (o := _) rfl (fun K hK => ?_) AllT.nil
        go_simp
        refine hK.out _ _ (fun h => absurd h (by decide)) ?_
        clear hK K
        try simp only [List.setIfInBounds_toArray, List.set_cons_zero, List.set_cons_succ]
        refine T_ready (rs := [18]) (by kernel_rfl) (by simp) ?_
        refine AllT.cons (o := _) rfl (fun K hK => ?_) AllT.nil
        go_simp
        refine hK.out _ _ (fun h => absurd h (by decide)) ?_
        clear hK K
        try simp only [List.setIfInBounds_toArray, List.set_cons_zero, List.set_cons_succ]
        rw [len_one] at ho9 ho14
        exact T_done (by kernel_rfl) (NoPanic.normal (HQ.out _ _ _ _ _ _ _ _ _ _ _ _ _ _ _ _ _ _ _ _ _ _ hM ho9 ho14 hO)) _
  · go_simp
    refine hK.out _ _ (fun _ => hM) ?_
    clear hK K
    try simp only [List.setIfInBounds_toArray, List.set_cons_zero, List.set_cons_succ]
    refine T_ready (rs := [8, 13]) (by kernel_rfl) (by simp) ?_
    refine AllT.cons (o := _) rfl (fun K hK => ?_) (AllT.cons (o := _) rfl (fun K hK => ?_) AllT.nil)
    · go_simp
      refine hK.out _ _ (fun _ => hM.alloc _) ?_
      clear hK K
      try simp only [List.setIfInBounds_toArray, List.set_cons_zero, List.set_cons_succ]
      have hi := hM.newBlk 3 #[.int .i64 (kid : Int)]
      replace hM := hM.alloc (Obj.cells #[.int .i64 (kid : Int)] 3)
      replace hI := own_alloc hI (Obj.cells #[.int .i64 (kid : Int)] 3)
      replace hU := own_alloc hU (Obj.cells #[.int .i64 (kid : Int)] 3)
      replace hO := own_alloc hO (Obj.cells #[.int .i64 (kid : Int)] 3)
      refine T_ready (rs := [9, 13]) (by kernel_rfl) (by simp) ?_
      refine AllT.cons (o := _) rfl (fun K hK => ?_) (AllT.cons (o := _) rfl (fun K hK => ?_) AllT.nil)
      · refine step_int rfl _ _ rfl B vk l rfl hI _ 1 (kid : Int) rfl (hi.c0 0 _ rfl) hkl (hBs ▸ hM.g.size) ?_
        intro v9 w9 ho9 hg9
        have hn9 := hM.own_int (hBs ▸ hI)
        refine hK.out _ _ (fun _ => hM.grown hg9 hn9.1 hn9.2.1 hn9.2.2) ?_
        clear hK K
        try simp only [List.setIfInBounds_toArray, List.set_cons_zero, List.set_cons_succ]
        replace hU := grown_own hU hg9 (own_own hI hU (by decide))
        replace hO := grown_own hO hg9 (own_own hI hO (by decide))
        replace hM := hM.grown hg9 hn9.1 hn9.2.1 hn9.2.2
        obtain ⟨p9, c9, rfl⟩ := own_slice ho9
        clear hi hI hg9 hn9
        refine T_take (i := 15) (oi := _) (v := ?_) rfl (by kernel_rfl) (by kernel_rfl) (by kernel_rfl) (by kernel_rfl) (fun _ _ _ h => h) (Or.inl ⟨by kernel_rfl, ?_⟩) (by with_reducible assumption) ?_
        rotate_left
        · intro wt hSw
          go_simp
          all_goals with_reducible rfl
        try simp only [Act.put, List.setIfInBounds_toArray]
        refine T_ready (rs := [13]) (by kernel_rfl) (by simp) ?_
        refine AllT.cons (o := _) rfl (fun K hK => ?_) AllT.nil
        go_simp
        refine hK.out _ _ (fun _ => hM.alloc _) ?_
        clear hK K
        try simp only [List.setIfInBounds_toArray, List.set_cons_zero, List.set_cons_succ]
        have hu := hM.newBlk 52 #[.int .i64 sm.1.1, .int .i64 sm.1.2, .int .i64 sm.2.1, .int .i64 sm.2.2]
        replace hM := hM.alloc (Obj.cells #[.int .i64 sm.1.1, .int .i64 sm.1.2, .int .i64 sm.2.1, .int .i64 sm.2.2] 52)
        replace ho9 := own_alloc ho9 (Obj.cells #[.int .i64 sm.1.1, .int .i64 sm.1.2, .int .i64 sm.2.1, .int .i64 sm.2.2] 52)
        replace hU := own_alloc hU (Obj.cells #[.int .i64 sm.1.1, .int .i64 sm.1.2, .int .i64 sm.2.1, .int .i64 sm.2.2] 52)
        replace hO := own_alloc hO (Obj.cells #[.int .i64 sm.1.1, .int .i64 sm.1.2, .int .i64 sm.2.1, .int .i64 sm.2.2] 52)
        refine T_ready (rs := [14]) (by kernel_rfl) (by simp) ?_
        refine AllT.cons (o := _) rfl (fun K hK => ?_) AllT.nil
        refine step_sum rfl _ _ rfl B vs m rfl hU _ 1 sm rfl hu hsl (hBs ▸ hM.g.size) ?_
        intro v14 w14 ho14 hg14
        have hn14 := hM.own_sum (hBs ▸ hU) hVS
        refine hK.out _ _ (fun _ => hM.grown hg14 hn14.1 hn14.2.1 hn14.2.2) ?_
        clear hK K
        try simp only [List.setIfInBounds_toArray, List.set_cons_zero, List.set_cons_succ]
        replace hO := grown_own hO hg14 (own_own hU hO (by decide))
        replace ho9 := grown_own ho9 hg14 (own_own hU ho9 (by decide))
        replace hM := hM.grown hg14 hn14.1 hn14.2.1 hn14.2.2
        obtain ⟨p14, c14, rfl⟩ := own_slice ho14
        clear hu hU hg14 hn14
        have m2 := hM.n.c0 2 _ rfl
        have m3 := hM.n.c0 3 _ rfl
        have g2 := hM.n.free 2
        have g3 := hM.n.free 3
        refine T_ready (rs := [16]) (by kernel_rfl) (by simp) ?_
        refine AllT.cons (o := _) rfl (fun K hK => ?_) AllT.nil
        go_simp
        refine hK.out _ _ (fun h => absurd h (by decide)) ?_
        clear hK K
        try simp only [List.setIfInBounds_toArray, List.set_cons_zero, List.set_cons_succ]
        refine T_ready (rs := [17]) (by kernel_rfl) (by simp) ?_
        refine AllT.cons (o := _) rfl (fun K hK => ?_) AllT.nil
        go_simp
        refine hK.out _ _ (fun h => absurd h (by decide)) ?_
        clear hK K
        try simp only [List.setIfInBounds_toArray, List.set_cons_zero, List.set_cons_succ]
        refine T_ready (rs := [18]) (by kernel_rfl) (by simp) ?_
        refine AllT.cons (o := _) rfl (fun K hK => ?_) AllT.nil
        go_simp
        refine hK.out _ _ (fun h => absurd h (by decide)) ?_
        clear hK K
        try simp only [List.setIfInBounds_toArray, List.set_cons_zero, List.set_cons_succ]
        rw [len_one] at ho9 ho14
        exact T_done (by kernel_rfl) (NoPanic.normal (HQ.out _ _ _ _ _ _ _ _ _ _ _ _ _ _ _ _ _ _ _ _ _ _ hM ho9 ho14 hO)) _
      · go_simp
        refine hK.out _ _ (fun _ => hM.alloc _) ?_
        clear hK K
        try simp only [List.setIfInBounds_toArray, List.set_cons_zero, List.set_cons_succ]
        have hu := blk_next 52 #[.int .i64 sm.1.1, .int .i64 sm.1.2, .int .i64 sm.2.1, .int .i64 sm.2.2] (wd.alloc (.cells #[.int .i64 (kid : Int)] 3)) (wd.heap.size + 1) (by simp)
        replace hM := hM.alloc (Obj.cells #[.int .i64 sm.1.1, .int .i64 sm.1.2, .int .i64 sm.2.1, .int .i64 sm.2.2] 52)
        replace hI := own_alloc hI (Obj.cells #[.int .i64 sm.1.1, .int .i64 sm.1.2, .int .i64 sm.2.1, .int .i64 sm.2.2] 52)
        replace hU := own_alloc hU (Obj.cells #[.int .i64 sm.1.1, .int .i64 sm.1.2, .int .i64 sm.2.1, .int .i64 sm.2.2] 52)
        replace hO := own_alloc hO (Obj.cells #[.int .i64 sm.1.1, .int .i64 sm.1.2, .int .i64 sm.2.1, .int .i64 sm.2.2] 52)
        replace hi := hi.alloc (Obj.cells #[.int .i64 sm.1.1, .int .i64 sm.1.2, .int .i64 sm.2.1, .int .i64 sm.2.2] 52)
        refine T_ready (rs := [9]) (by kernel_rfl) (by simp) ?_
        refine AllT.cons (o := _) rfl (fun K hK => ?_) AllT.nil
        refine step_int rfl _ _ rfl B vk l rfl hI _ 1 (kid : Int) rfl (hi.c0 0 _ rfl) hkl (hBs ▸ hM.g.size) ?_
        intro v9 w9 ho9 hg9
        have hn9 := hM.own_int (hBs ▸ hI)
        refine hK.out _ _ (fun _ => hM.grown hg9 hn9.1 hn9.2.1 hn9.2.2) ?_
        clear hK K
        try simp only [List.setIfInBounds_toArray, List.set_cons_zero, List.set_cons_succ]
        replace hU := grown_own hU hg9 (own_own hI hU (by decide))
        replace hO := grown_own hO hg9 (own_own hI hO (by decide))
        replace hu := grown_blk hu hg9 (own_type hI hu (by decide))
        replace hM := hM.grown hg9 hn9.1 hn9.2.1 hn9.2.2
        obtain ⟨p9, c9, rfl⟩ := own_slice ho9
        clear hi hI hg9 hn9
        refine T_take (i := 15) (oi := _) (v := ?_) rfl (by kernel_rfl) (by kernel_rfl) (by kernel_rfl) (by kernel_rfl) (fun _ _ _ h => h) (Or.inl ⟨by kernel_rfl, ?_⟩) (by with_reducible assumption) ?_
        rotate_left
        · intro wt hSw
          go_simp
          all_goals with_reducible rfl
        try simp only [Act.put, List.setIfInBounds_toArray]
        refine T_ready (rs := [14]) (by kernel_rfl) (by simp) ?_
        refine AllT.cons (o := _) rfl (fun K hK => ?_) AllT.nil
        refine step_sum rfl _ _ rfl B vs m rfl hU _ 1 sm rfl hu hsl (hBs ▸ hM.g.size) ?_
        intro v14 w14 ho14 hg14
        have hn14 := hM.own_sum (hBs ▸ hU) hVS
        refine hK.out _ _ (fun _ => hM.grown hg14 hn14.1 hn14.2.1 hn14.2.2) ?_
        clear hK K
        try simp only [List.setIfInBounds_toArray, List.set_cons_zero, List.set_cons_succ]
        replace hO := grown_own hO hg14 (own_own hU hO (by decide))
        replace ho9 := grown_own ho9 hg14 (own_own hU ho9 (by decide))
        replace hM := hM.grown hg14 hn14.1 hn14.2.1 hn14.2.2
        obtain ⟨p14, c14, rfl⟩ := own_slice ho14
        clear hu hU hg14 hn14
        have m2 := hM.n.c0 2 _ rfl
        have m3 := hM.n.c0 3 _ rfl
        have g2 := hM.n.free 2
        have g3 := hM.n.free 3
        refine T_ready (rs := [16]) (by kernel_rfl) (by simp) ?_
        refine AllT.cons (o := _) rfl (fun K hK => ?_) AllT.nil
        go_simp
        refine hK.out _ _ (fun h => absurd h (by decide)) ?_
        clear hK K
        try simp only [List.setIfInBounds_toArray, List.set_cons_zero, List.set_cons_succ]
        refine T_ready (rs := [17]) (by kernel_rfl) (by simp) ?_
        refine AllT.cons (o := _) rfl (fun K hK => ?_) AllT.nil
        go_simp
        refine hK.out _ _ (fun h => absurd h (by decide)) ?_
        clear hK K
        try simp only [List.setIfInBounds_toArray, List.set_cons_zero, List.set_cons_succ]
        refine T_ready (rs := [18]) (by kernel_rfl) (by simp) ?_
        refine AllT.cons (o := _) rfl (fun K hK => ?_) AllT.nil
        go_simp
        refine hK.out _ _ (fun h => absurd h (by decide)) ?_
        clear hK K
        try simp only [List.setIfInBounds_toArray, List.set_cons_zero, List.set_cons_succ]
        rw [len_one] at ho9 ho14
        exact T_done (by kernel_rfl) (NoPanic.normal (HQ.out _ _ _ _ _ _ _ _ _ _ _ _ _ _ _ _ _ _ _ _ _ _ hM ho9 ho14 hO)) _
    · go_simp
      refine hK.out _ _ (fun _ => hM.alloc _) ?_
      clear hK K
      try simp only [List.setIfInBounds_toArray, List.set_cons_zero, List.set_cons_succ]
      have hu := hM.newBlk 52 #[.int .i64 sm.1.1, .int .i64 sm.1.2, .int .i64 sm.2.1, .int .i64 sm.2.2]
      replace hM := hM.alloc (Obj.cells #[.int .i64 sm.1.1, .int .i64 sm.1.2, .int .i64 sm.2.1, .int .i64 sm.2.2] 52)
      replace hI := own_alloc hI (Obj.cells #[.int .i64 sm.1.1, .int .i64 sm.1.2, .int .i64 sm.2.1, .int .i64 sm.2.2] 52)
      replace hU := own_alloc hU (Obj.cells #[.int .i64 sm.1.1, .int .i64 sm.1.2, .int .i64 sm.2.1, .int .i64 sm.2.2] 52)
      replace hO := own_alloc hO (Obj.cells #[.int .i64 sm.1.1, .int .i64 sm.1.2, .int .i64 sm.2.1, .int .i64 sm.2.2] 52)
      refine T_ready (rs := [8]) (by kernel_rfl) (by simp) ?_
      refine AllT.cons (o := _) rfl (fun K hK => ?_) AllT.nil
      go_simp
      refine hK.out _ _ (fun _ => hM.alloc _) ?_
      clear hK K
      try simp only [List.setIfInBounds_toArray, List.set_cons_zero, List.set_cons_succ]
      have hi := blk_next 3 #[.int .i64 (kid : Int)] (wd.alloc (.cells #[.int .i64 sm.1.1, .int .i64 sm.1.2, .int .i64 sm.2.1, .int .i64 sm.2.2] 52)) (wd.heap.size + 1) (by simp)
      replace hM := hM.alloc (Obj.cells #[.int .i64 (kid : Int)] 3)
      replace hI := own_alloc hI (Obj.cells #[.int .i64 (kid : Int)] 3)
      replace hU := own_alloc hU (Obj.cells #[.int .i64 (kid : Int)] 3)
      replace hO := own_alloc hO (Obj.cells #[.int .i64 (kid : Int)] 3)
      replace hu := hu.alloc (Obj.cells #[.int .i64 (kid : Int)] 3)
      refine T_ready (rs := [9]) (by kernel_rfl) (by simp) ?_
      refine AllT.cons (o := _) rfl (fun K hK => ?_) AllT.nil
      refine step_int rfl _ _ rfl B vk l rfl hI _ 1 (kid : Int) rfl (hi.c0 0 _ rfl) hkl (hBs ▸ hM.g.size) ?_
      intro v9 w9 ho9 hg9
      have hn9 := hM.own_int (hBs ▸ hI)
      refine hK.out _ _ (fun _ => hM.grown hg9 hn9.1 hn9.2.1 hn9.2.2) ?_
      clear hK K
      try simp only [List.setIfInBounds_toArray, List.set_cons_zero, List.set_cons_succ]
      replace hU := grown_own hU hg9 (own_own hI hU (by decide))
      replace hO := grown_own hO hg9 (own_own hI hO (by decide))
      replace hu := grown_blk hu hg9 (own_type hI hu (by decide))
      replace hM := hM.grown hg9 hn9.1 hn9.2.1 hn9.2.2
      obtain ⟨p9, c9, rfl⟩ := own_slice ho9
      clear hi hI hg9 hn9
      refine T_take (i := 15) (oi := _) (v := ?_) rfl (by kernel_rfl) (by kernel_rfl) (by kernel_rfl) (by kernel_rfl) (fun _ _ _ h => h) (Or.inl ⟨by kernel_rfl, ?_⟩) (by with_reducible assumption) ?_
      rotate_left
      · intro wt hSw
        go_simp
        all_goals with_reducible rfl
      try simp only [Act.put, List.setIfInBounds_toArray]
      refine T_ready (rs := [14]) (by kernel_rfl) (by simp) ?_
      refine AllT.cons (o := _) rfl (fun K hK => ?_) AllT.nil
      refine step_sum rfl _ _ rfl B vs m rfl hU _ 1 sm rfl hu hsl (hBs ▸ hM.g.size) ?_
      intro v14 w14 ho14 hg14
      have hn14 := hM.own_sum (hBs ▸ hU) hVS
      refine hK.out _ _ (fun _ => hM.grown hg14 hn14.1 hn14.2.1 hn14.2.2) ?_
      clear hK K
      try simp only [List.setIfInBounds_toArray, List.set_cons_zero, List.set_cons_succ]
      replace hO := grown_own hO hg14 (own_own hU hO (by decide))
      replace ho9 := grown_own ho9 hg14 (own_own hU ho9 (by decide))
      replace hM := hM.grown hg14 hn14.1 hn14.2.1 hn14.2.2
      obtain ⟨p14, c14, rfl⟩ := own_slice ho14
      clear hu hU hg14 hn14
      have m2 := hM.n.c0 2 _ rfl
      have m3 := hM.n.c0 3 _ rfl
      have g2 := hM.n.free 2
      have g3 := hM.n.free 3
      refine T_ready (rs := [16]) (by kernel_rfl) (by simp) ?_
      refine AllT.cons (o := _) rfl (fun K hK => ?_) AllT.nil
      go_simp
      refine hK.out _ _ (fun h => absurd h (by decide)) ?_
      clear hK K
      try simp only [List.setIfInBounds_toArray, List.set_cons_zero, List.set_cons_succ]
      refine T_ready (rs := [17]) (by kernel_rfl) (by simp) ?_
      refine AllT.cons (o := _) rfl (fun K hK => ?_) AllT.nil
      go_simp
      refine hK.out _ _ (fun h => absurd h (by decide)) ?_
      clear hK K
      try simp only [List.setIfInBounds_toArray, List.set_cons_zero, List.set_cons_succ]
      refine T_ready (rs := [18]) (by kernel_rfl) (by simp) ?_
      refine AllT.cons (o := _) rfl (fun K hK => ?_) AllT.nil
      go_simp
      refine hK.out _ _ (fun h => absurd h (by decide)) ?_
      clear hK K
      try simp only [List.setIfInBounds_toArray, List.set_cons_zero, List.set_cons_succ]
      rw [len_one] at ho9 ho14
      exact T_done (by kernel_rfl) (NoPanic.normal (HQ.out _ _ _ _ _ _ _ _ _ _ _ _ _ _ _ _ _ _ _ _ _ _ hM ho9 ho14 hO)) _

end Go.Proofs.YtmbfghbhajmpiaaGreat

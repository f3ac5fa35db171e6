import Derived.Test.YtglbamalagacgaaGreatL2
namespace Go.Proofs.YtglbamalagacgaaGreat
open Go.RowKit Go.Shelf

attribute [local go_sem] Oper.semAt_some

def setR (c : TabC) (n : Int) (s : c.S) (e : Int) (s' : c.S) : Prop := ((1 ≤ n ∧ n ≤ 400 ∧ e = 0) ∨ (¬ (1 ≤ n ∧ n ≤ 400) ∧ (e == 0) = false)) ∧ c.xs s' = c.xs s ∧ c.fits s s'
structure TabC.Goes (c : TabC) : Prop where
  set : ∀ w t s F n, c.T w t s F → c.turns 39 #[.int .i64 n] w t s F fun v s' => ∃ e, v = .int .i64 e ∧ setR c n s e s'
  move : ∀ w t s F n, c.T w t s F → c.turns 24 #[.int .i64 n] w t s F fun _ s' => c.xs s' = c.xs s ∧ c.fits s s'
  step : ∀ w t s F, c.T w t s F → c.turns 17 #[] w t s F fun _ s' => c.xs s' = c.xs s ∧ c.fits s s'
  abort : ∀ w t s F, c.T w t s F → c.turns 25 #[] w t s F fun _ s' => c.xs s' = c.xs s ∧ c.fits s s'

theorem Law.later {c : TabC} {w w' : World} {bk g t : Nat} {cf : Cfg} {rs : Nat → Int} {s : c.S} {F : List Nat} (h : Law c w bk g t cf rs s F) (hB : Below w.heap.size w w') : Law c w' bk g t cf rs s F :=
  ⟨h.book.kept (hB.block _ h.book.lt.1) (hB.block _ h.book.lt.2), c.kept h.tab fun k hk => hB.block k (c.lt h.tab k hk), h.n1, h.n2, h.tie, h.lg⟩
theorem LawPost.back {c : TabC} {bk g t : Nat} {cf : Cfg} {s : c.S} {F : List Nat} {w w1 w' : World} {r : Ending} (h : LawPost c bk g t cf s F w1 r w') (hB : Below w.heap.size w w1) : LawPost c bk g t cf s F w r w' := by
  obtain ⟨h1, g', rs', s', F', h2, h3, h4, h5⟩ := h
  refine ⟨h1, g', rs', s', F', h2, h3, (Only.of_below _ hB).trans h4 (fun x hx => .inl hx), fun k hk => (h5 k hk).imp id fun h => by have := hB.size; omega⟩

set_option maxHeartbeats 1000000 in
theorem step_any (c : TabC) (hc : c.Works) (hap : c.Apps) (hg : c.Goes) (w : World) (bk g t : Nat) (cf : Cfg) (rs : Nat → Int) (s : c.S) (F : List Nat) (hL : Law c w bk g t cf rs s F) (k a l n : Int) (v : Value) (cs : List Chg) (hv : ChgsAt w v cs) (hva : Apart v F) :
    Calls Tryz.prog 14 #[ptrV bk, stepV k a l n v] w (LawPost c bk g t cf s F w) := by
  have hx := hL.book.x
  have hl := hL.book.lt.1
  have hFl := c.lt hL.tab
  have nb : bk ∉ F := hL.n1
  have no : w.heap.size ∉ F := fun h => by have := hFl _ h; omega
  have hB1 : Below w.heap.size w (w.alloc (.cells #[.int .i64 k, .int .i64 a, .int .i64 l, .int .i64 n, v] 35)) := (Below.refl _ w).alloc (Nat.le_refl _) _
  have hL1 := hL.later hB1
  have Hv := hide (hv.later hB1)
  have HB1 := hide hB1
  have HL := hide hL
  have hve := hv
  obtain ⟨va, vc, hve, _, _⟩ := hve
  by_cases k1 : k = 1
  · subst k1
    have hcall := hide (adds_any c hc _ bk g t cf rs s F hL1 1 a l n v)
    subst hve
    clear hL1 hB1 hL
    go_enter Tryz.func14, Tryz.ntmps14
    go_wp2_with (go_at_call 36; refine hcall.out.mono ?_; rintro r w' hpost; (have hp2 := hide (hpost.back HB1.out)); obtain ⟨rfl, -⟩ := hpost)
    go_ret
    exact hp2.out
  by_cases k2 : k = 2
  · subst k2
    have hcall := hide (deletes_any c hc _ bk g t cf rs s F hL1 2 a l n v)
    subst hve
    clear hL1 hB1 hL k1
    go_enter Tryz.func14, Tryz.ntmps14
    go_wp2_with (go_at_call 37; refine hcall.out.mono ?_; rintro r w' hpost; (have hp2 := hide (hpost.back HB1.out)); obtain ⟨rfl, -⟩ := hpost)
    go_ret
    exact hp2.out
  by_cases k3 : k = 3
  · subst k3
    have hcall := hide (applies_any c hap _ bk g t cf rs s F hL1 3 a l n v cs Hv.out hva)
    subst hve
    clear hL1 hB1 hL k1 k2
    go_enter Tryz.func14, Tryz.ntmps14
    go_wp2_with (go_at_call 38; refine hcall.out.mono ?_; rintro r w' hpost; (have hp2 := hide (hpost.back HB1.out)); obtain ⟨rfl, -⟩ := hpost)
    go_ret
    exact hp2.out
  have hBd : Below w.heap.size w (w.alloc (.cells #[.int .i64 k, .int .i64 a, .int .i64 l, .int .i64 n, v] 35)).drew := hB1.drew
  have HBd := hide hBd
  have hTd := (hL.later hBd).tab
  by_cases k4 : k = 4
  · subst k4
    have hcall := hide (hg.set _ t s F n hTd)
    subst hve
    clear hL1 hB1 hL k1 k2 k3 hBd hTd
    go_enter Tryz.func14, Tryz.ntmps14
    go_wp2
    go_region_held3 (fun w' => w'.cell? ⟨bk, 4, none⟩ = some (ptrV t) ∧ w'.cell? ⟨w.heap.size, 3, none⟩ = some (.int .i64 n)) (go_keep)
      (first
        | (go_at_call 39; refine hcall.out.mono ?_; rintro _ w2 ⟨_, s', F', rfl, ⟨e, rfl, hR⟩, hT, hN, hO, hlg⟩; (have k0 : ∀ o, w2.cell? ⟨bk, o, none⟩ = w.cell? ⟨bk, o, none⟩ := fun o => (hO.cell (by simp; omega) nb).trans (HBd.out.cell (p := ⟨bk, o, none⟩) hl)); (have k1 := fun o => hO.cell (o := o) (b := w.heap.size) (by simp) no)))
    clear hcall k0 k1
    obtain ⟨hR, hxs, hf⟩ := hR
    obtain ⟨q1, q2, q3⟩ := HL.out.after HBd.out hT hN hO hlg hxs
    have fin := hide (q1.post hf (q2.wide bk g) q3)
    clear hT hN hO q1 q2 q3 hxs hf hlg
    rcases hR with ⟨h1, h2, rfl⟩ | ⟨h1, h2⟩
    · go_wp2
      go_ret
      exact fin.out
    · by_cases h3 : 1 ≤ n
      · have h4 : ¬ n ≤ 400 := fun h => h1 ⟨h3, h⟩
        clear h1
        go_wp2
        go_ret
        exact fin.out
      · clear h1
        go_wp2
        go_ret
        exact fin.out
  by_cases k5 : k = 5
  · subst k5
    have hcall := hide (hg.move _ t s F n hTd)
    subst hve
    clear hL1 hB1 hL k1 k2 k3 k4 hBd hTd
    go_enter Tryz.func14, Tryz.ntmps14
    go_wp2
    go_region_held3 (fun w' => w'.cell? ⟨bk, 4, none⟩ = some (ptrV t) ∧ w'.cell? ⟨w.heap.size, 3, none⟩ = some (.int .i64 n)) (go_keep)
      (first
        | (go_at_call 24; refine hcall.out.mono ?_; rintro _ w2 ⟨v2, s', F', rfl, ⟨hxs, hf⟩, hT, hN, hO, hlg⟩; (have k0 : ∀ o, w2.cell? ⟨bk, o, none⟩ = w.cell? ⟨bk, o, none⟩ := fun o => (hO.cell (by simp; omega) nb).trans (HBd.out.cell (p := ⟨bk, o, none⟩) hl)); (have k1 := fun o => hO.cell (o := o) (b := w.heap.size) (by simp) no)))
    clear hcall k0 k1
    obtain ⟨q1, q2, q3⟩ := HL.out.after HBd.out hT hN hO hlg hxs
    have fin := hide (q1.post hf (q2.wide bk g) q3)
    clear hT hN hO q1 q2 q3 hxs hf hlg
    go_wp2
    go_ret
    exact fin.out
  by_cases k6 : k = 6
  · subst k6
    have hcall := hide (hg.step _ t s F hL1.tab)
    subst hve
    clear hL1 hB1 hL k1 k2 k3 k4 k5 hBd hTd
    go_enter Tryz.func14, Tryz.ntmps14
    go_wp2_with (go_at_call 17; refine hcall.out.mono ?_; rintro _ w2 ⟨v2, s', F', rfl, ⟨hxs, hf⟩, hT, hN, hO, hlg⟩; obtain ⟨q1, q2, q3⟩ := HL.out.after HB1.out hT hN hO hlg hxs; (have fin := hide (q1.post hf (q2.wide bk g) q3)); clear hT hN hO q1 q2 q3 hxs hf hlg)
    go_ret
    exact fin.out
  by_cases k7 : k = 7
  · subst k7
    have hcall := hide (hg.abort _ t s F hL1.tab)
    subst hve
    clear hL1 hB1 hL k1 k2 k3 k4 k5 k6 hBd hTd
    go_enter Tryz.func14, Tryz.ntmps14
    go_wp2_with (go_at_call 25; refine hcall.out.mono ?_; rintro _ w2 ⟨v2, s', F', rfl, ⟨hxs, hf⟩, hT, hN, hO, hlg⟩; obtain ⟨q1, q2, q3⟩ := HL.out.after HB1.out hT hN hO hlg hxs; (have fin := hide (q1.post hf (q2.wide bk g) q3)); clear hT hN hO q1 q2 q3 hxs hf hlg)
    go_ret
    exact fin.out
  have fin := hide (hL1.post (s := s) (TabC.fits_refl _ _) ((Only.of_below F hB1).wide bk g) (NewF.refl w F))
  have j1 : (k == 1) = false := by simpa using k1
  have j2 : (k == 2) = false := by simpa using k2
  have j3 : (k == 3) = false := by simpa using k3
  have j4 : (k == 4) = false := by simpa using k4
  have j5 : (k == 5) = false := by simpa using k5
  have j6 : (k == 6) = false := by simpa using k6
  have j7 : (k == 7) = false := by simpa using k7
  subst hve
  clear hL1 hB1 hL k1 k2 k3 k4 k5 k6 k7 hBd hTd
  go_enter Tryz.func14, Tryz.ntmps14
  go_wp2
  go_ret
  exact fin.out

end Go.Proofs.YtglbamalagacgaaGreat

namespace Go.Proofs.YtglbamalagacgaaGreat
open Go.RowKit Go.Shelf

attribute [local go_sem] Oper.semAt_some

def isCfg (cf : Cfg) : Prop := 1 ≤ cf.e ∧ cf.e ≤ 3 ∧ 1 ≤ cf.b ∧ cf.b ≤ 400 ∧ 1 ≤ cf.c ∧ cf.c ≤ 8 ∧ 1 ≤ cf.l ∧ cf.l ≤ 16
abbrev cfgV (cf : Cfg) : Value := .agg #[.int .i64 cf.e, .int .i64 cf.b, .int .i64 cf.c, .int .i64 cf.l]
structure TabC.News (c : TabC) : Prop where
  no : ∀ w cf, ¬ isCfg cf → Calls Tryz.prog 31 #[cfgV cf] w fun r w' => r = .returned (.tuple #[.pointer none, .int .i64 1]) ∧ Below w.heap.size w w'
  yes : ∀ w cf, isCfg cf → Calls Tryz.prog 31 #[cfgV cf] w fun r w' => ∃ t s F, r = .returned (.tuple #[ptrV t, .int .i64 0]) ∧ Below w.heap.size w w' ∧ c.T w' t s F ∧ (∀ k ∈ F, w.heap.size ≤ k) ∧ c.xs s = [] ∧ c.log s = (cf.l, cf.c) ∧ c.cnt s = 0

theorem cfg_cases (cf : Cfg) : isCfg cf ∨ cf.e < 1 ∨ (1 ≤ cf.e ∧ 3 < cf.e) ∨ (1 ≤ cf.e ∧ cf.e ≤ 3 ∧ cf.b < 1) ∨ (1 ≤ cf.e ∧ cf.e ≤ 3 ∧ 1 ≤ cf.b ∧ 400 < cf.b) ∨ (1 ≤ cf.e ∧ cf.e ≤ 3 ∧ 1 ≤ cf.b ∧ cf.b ≤ 400 ∧ cf.c < 1) ∨ (1 ≤ cf.e ∧ cf.e ≤ 3 ∧ 1 ≤ cf.b ∧ cf.b ≤ 400 ∧ 1 ≤ cf.c ∧ 8 < cf.c) ∨ (1 ≤ cf.e ∧ cf.e ≤ 3 ∧ 1 ≤ cf.b ∧ cf.b ≤ 400 ∧ 1 ≤ cf.c ∧ cf.c ≤ 8 ∧ cf.l < 1) ∨ (1 ≤ cf.e ∧ cf.e ≤ 3 ∧ 1 ≤ cf.b ∧ cf.b ≤ 400 ∧ 1 ≤ cf.c ∧ cf.c ≤ 8 ∧ 1 ≤ cf.l ∧ 16 < cf.l) := by
  unfold isCfg
  omega

set_option maxHeartbeats 1000000 in
theorem opened_no (c : TabC) (hn : c.News) (cf : Cfg) (w : World) (h : ¬ isCfg cf) :
    Calls Tryz.prog 13 #[cfgV cf] w fun r w' => r = .returned (.tuple #[.pointer none, .bool true]) ∧ Below w.heap.size w w' := by
  have hB1 : Below w.heap.size w (w.alloc (.cells #[.int .i64 cf.e, .int .i64 cf.b, .int .i64 cf.c, .int .i64 cf.l] 23)) := (Below.refl _ w).alloc (Nat.le_refl _) _
  have HB1 := hide hB1
  have hcall := hide (hn.no (w.alloc (.cells #[.int .i64 cf.e, .int .i64 cf.b, .int .i64 cf.c, .int .i64 cf.l] 23)) cf h)
  have hcs := cfg_cases cf
  obtain ⟨e, b, ch, lg⟩ := cf
  simp only at hcs
  clear hB1
  rcases hcs with h1 | h1 | h1 | h1 | h1 | h1 | h1 | h1 | h1
  · exact absurd h1 h
  all_goals
    (try have d1 := h1.1)
    (try have d2 := h1.2.1)
    (try have d3 := h1.2.2.1)
    (try have d4 := h1.2.2.2.1)
    (try have d5 := h1.2.2.2.2.1)
    (try have d6 := h1.2.2.2.2.2.1)
    (try have d7 := h1.2.2.2.2.2.2.1)
    (try have d8 : 16 < lg := h1.2.2.2.2.2.2.2)
    (try have d8' : decide (lg ≤ 16) = false := (decide_eq_false (by omega)))
    clear h
    go_enter Tryz.func13, Tryz.ntmps13
    go_wp2_with fail
    refine hcall.out.mono ?_
    rintro _ w2 ⟨rfl, hb2⟩
    have c0 : w2.cell? ⟨w.heap.size, 0, none⟩ = some (.int .i64 e) := (hb2.cell (p := ⟨w.heap.size, 0, none⟩) (by simp)).trans (by simp)
    have c1 : w2.cell? ⟨w.heap.size, 1, none⟩ = some (.int .i64 b) := (hb2.cell (p := ⟨w.heap.size, 1, none⟩) (by simp)).trans (by simp)
    have c2 : w2.cell? ⟨w.heap.size, 2, none⟩ = some (.int .i64 ch) := (hb2.cell (p := ⟨w.heap.size, 2, none⟩) (by simp)).trans (by simp)
    have c3 : w2.cell? ⟨w.heap.size, 3, none⟩ = some (.int .i64 lg) := (hb2.cell (p := ⟨w.heap.size, 3, none⟩) (by simp)).trans (by simp)
    have fin := hide (HB1.out.trans (hb2.mono HB1.out.size))
    clear hb2 hcall
    go_wp2
    go_ret2
    exact ⟨rfl, fin.out⟩

def OpenPost (c : TabC) (cf : Cfg) (w : World) (r : Ending) (w' : World) : Prop :=
  ∃ bk g t s F, r = .returned (.tuple #[ptrV bk, .bool true]) ∧ Law c w' bk g t cf (fun _ => 0) s F ∧ Below w.heap.size w w' ∧ w.heap.size ≤ bk ∧ w.heap.size ≤ g ∧ (∀ k ∈ F, w.heap.size ≤ k) ∧ c.cnt s = 0

set_option maxHeartbeats 1000000 in
theorem opened_yes (c : TabC) (hn : c.News) (cf : Cfg) (w : World) (h : isCfg cf) :
    Calls Tryz.prog 13 #[cfgV cf] w (OpenPost c cf w) := by
  have hB1 : Below w.heap.size w (w.alloc (.cells #[.int .i64 cf.e, .int .i64 cf.b, .int .i64 cf.c, .int .i64 cf.l] 23)) := (Below.refl _ w).alloc (Nat.le_refl _) _
  have HB1 := hide hB1
  have hcall := hide (hn.yes (w.alloc (.cells #[.int .i64 cf.e, .int .i64 cf.b, .int .i64 cf.c, .int .i64 cf.l] 23)) cf h)
  obtain ⟨M, hM, hM0, hmk⟩ := makeRow
  obtain ⟨e, b, ch, lg⟩ := cf
  obtain ⟨d1, d2, d3, d4, d5, d6, d7, d8⟩ := h
  simp only at d1 d2 d3 d4 d5 d6 d7 d8
  clear hB1
  go_enter Tryz.func13, Tryz.ntmps13
  go_wp2_with fail
  refine hcall.out.mono ?_
  rintro _ w2 ⟨t, s, F, rfl, hb2, hT, hF, hxs, hlg, hct⟩
  have c0 : w2.cell? ⟨w.heap.size, 0, none⟩ = some (.int .i64 e) := (hb2.cell (p := ⟨w.heap.size, 0, none⟩) (by simp)).trans (by simp)
  have c1 : w2.cell? ⟨w.heap.size, 1, none⟩ = some (.int .i64 b) := (hb2.cell (p := ⟨w.heap.size, 1, none⟩) (by simp)).trans (by simp)
  have c2 : w2.cell? ⟨w.heap.size, 2, none⟩ = some (.int .i64 ch) := (hb2.cell (p := ⟨w.heap.size, 2, none⟩) (by simp)).trans (by simp)
  have c3 : w2.cell? ⟨w.heap.size, 3, none⟩ = some (.int .i64 lg) := (hb2.cell (p := ⟨w.heap.size, 3, none⟩) (by simp)).trans (by simp)
  have hsz : w.heap.size < w2.heap.size := by have := hb2.size; simp at this; omega
  have fin := hide (HB1.out.trans (hb2.mono HB1.out.size))
  clear hb2 hcall
  go_wp2
  have fin2 := hide (show OpenPost c ⟨e, b, ch, lg⟩ w (.returned (.tuple #[ptrV (w2.heap.size + 1), .bool true])) ((w2.alloc (.cells M 3)).alloc (.cells #[.int .i64 e, .int .i64 b, .int .i64 ch, .int .i64 lg, ptrV t, .slice (some ⟨w2.heap.size, 0, none⟩) 2304 2304] 43)).drew from by
    have hB2 : Below w2.heap.size w2 ((w2.alloc (.cells M 3)).alloc (.cells #[.int .i64 e, .int .i64 b, .int .i64 ch, .int .i64 lg, ptrV t, .slice (some ⟨w2.heap.size, 0, none⟩) 2304 2304] 43)).drew := (((Below.refl _ w2).alloc (Nat.le_refl _) _).alloc (by simp) _).drew
    have hl := c.lt hT
    have hws := fin.out.size
    refine ⟨w2.heap.size + 1, w2.heap.size, t, s, F, rfl, ⟨⟨?_, ⟨M, ?_, hM, hM0⟩, by omega⟩, c.kept hT fun k hk => hB2.block k (hl k hk), fun h => by have := hl _ h; omega, fun h => by have := hl _ h; omega, ⟨fun a l _ => by rw [hxs]; rfl, fun _ _ => rfl⟩, hlg⟩, fin.out.trans (hB2.mono hws), by omega, by omega, fun k hk => by have := hF k hk; simp at this; omega, hct⟩
    · have := World.alloc_heap_new (w2.alloc (.cells M 3)) (.cells #[.int .i64 e, .int .i64 b, .int .i64 ch, .int .i64 lg, ptrV t, .slice (some ⟨w2.heap.size, 0, none⟩) 2304 2304] 43)
      rw [World.size_alloc] at this
      exact this
    · exact (Below.heap_alloc (w2.alloc (.cells M 3)) _ _ (by simp)).trans (World.alloc_heap_new w2 _))
  clear hT hF hxs hlg hM hM0 hct
  go_region
  go_wp2
  go_ret2
  exact fin2.out

end Go.Proofs.YtglbamalagacgaaGreat

import Derived.Test.YtkihifodifkieaaLst2
namespace Go.Proofs.Ytkihifodifkieaa
open Go.RowKit Go.Shelf

attribute [local go_sem] Oper.semAt_some

def isCfg (cf : Cfg) : Prop := 1 ≤ cf.e ∧ cf.e ≤ 3 ∧ 1 ≤ cf.b ∧ cf.b ≤ 400 ∧ 1 ≤ cf.c ∧ cf.c ≤ 8 ∧ 1 ≤ cf.l ∧ cf.l ≤ 16
abbrev cfgV (cf : Cfg) : Value := .agg #[.int .i64 cf.e, .int .i64 cf.b, .int .i64 cf.c, .int .i64 cf.l]
structure TabC.News (c : TabC) : Prop where
  no : ∀ w cf, ¬ isCfg cf → Calls Try.prog 8 #[cfgV cf] w fun r w' => r = .returned (.tuple #[.pointer none, .int .i64 1]) ∧ Below w.heap.size w w'
  yes : ∀ w cf, isCfg cf → Calls Try.prog 8 #[cfgV cf] w fun r w' => ∃ t s F, r = .returned (.tuple #[ptrV t, .int .i64 0]) ∧ Below w.heap.size w w' ∧ c.T w' t s F ∧ (∀ k ∈ F, w.heap.size ≤ k) ∧ c.xs s = [] ∧ c.log s = cf.l

theorem cfg_cases (cf : Cfg) : isCfg cf ∨ cf.e < 1 ∨ (1 ≤ cf.e ∧ 3 < cf.e) ∨ (1 ≤ cf.e ∧ cf.e ≤ 3 ∧ cf.b < 1) ∨ (1 ≤ cf.e ∧ cf.e ≤ 3 ∧ 1 ≤ cf.b ∧ 400 < cf.b) ∨ (1 ≤ cf.e ∧ cf.e ≤ 3 ∧ 1 ≤ cf.b ∧ cf.b ≤ 400 ∧ cf.c < 1) ∨ (1 ≤ cf.e ∧ cf.e ≤ 3 ∧ 1 ≤ cf.b ∧ cf.b ≤ 400 ∧ 1 ≤ cf.c ∧ 8 < cf.c) ∨ (1 ≤ cf.e ∧ cf.e ≤ 3 ∧ 1 ≤ cf.b ∧ cf.b ≤ 400 ∧ 1 ≤ cf.c ∧ cf.c ≤ 8 ∧ cf.l < 1) ∨ (1 ≤ cf.e ∧ cf.e ≤ 3 ∧ 1 ≤ cf.b ∧ cf.b ≤ 400 ∧ 1 ≤ cf.c ∧ cf.c ≤ 8 ∧ 1 ≤ cf.l ∧ 16 < cf.l) := by
  unfold isCfg
  omega

set_option maxHeartbeats 1000000 in
theorem opened_no (c : TabC) (hn : c.News) (cf : Cfg) (w : World) (h : ¬ isCfg cf) :
    Calls Try.prog 4 #[cfgV cf] w fun r w' => r = .returned (.tuple #[.pointer none, .bool true]) ∧ Below w.heap.size w w' := by
  have hB1 : Below w.heap.size w (w.alloc (.cells #[.int .i64 cf.e, .int .i64 cf.b, .int .i64 cf.c, .int .i64 cf.l] 23)) := (Below.refl _ w).alloc (Nat.le_refl _) _
  have HB1 := hide hB1
  have hcall := hide (hn.no (w.alloc (.cells #[.int .i64 cf.e, .int .i64 cf.b, .int .i64 cf.c, .int .i64 cf.l] 23)) cf h)
  have hcs := cfg_cases cf
  obtain ⟨e, b, ch, lg⟩ := cf
  simp only at hcs
  clear hB1
  rcases hcs with h1 | h1 | h1 | h1 | h1 | h1 | h1 | h1 | h1
  · exact absurd h1 h
  all_goals
    (try have d1 := h1.1)
    (try have d2 := h1.2.1)
    (try have d3 := h1.2.2.1)
    (try have d4 := h1.2.2.2.1)
    (try have d5 := h1.2.2.2.2.1)
    (try have d6 := h1.2.2.2.2.2.1)
    (try have d7 := h1.2.2.2.2.2.2.1)
    (try have d8 : 16 < lg := h1.2.2.2.2.2.2.2)
    (try have d8' : decide (lg ≤ 16) = false := (decide_eq_false (by omega)))
    clear h
    go_enter Try.func4, Try.ntmps4
    go_wp2_with fail
    refine hcall.out.mono ?_
    rintro _ w2 ⟨rfl, hb2⟩
    have c0 : w2.cell? ⟨w.heap.size, 0, none⟩ = some (.int .i64 e) := (hb2.cell (p := ⟨w.heap.size, 0, none⟩) (by simp)).trans (by simp)
    have c1 : w2.cell? ⟨w.heap.size, 1, none⟩ = some (.int .i64 b) := (hb2.cell (p := ⟨w.heap.size, 1, none⟩) (by simp)).trans (by simp)
    have c2 : w2.cell? ⟨w.heap.size, 2, none⟩ = some (.int .i64 ch) := (hb2.cell (p := ⟨w.heap.size, 2, none⟩) (by simp)).trans (by simp)
    have c3 : w2.cell? ⟨w.heap.size, 3, none⟩ = some (.int .i64 lg) := (hb2.cell (p := ⟨w.heap.size, 3, none⟩) (by simp)).trans (by simp)
    have fin := hide (HB1.out.trans (hb2.mono HB1.out.size))
    clear hb2 hcall
    go_wp2
    go_ret2
    exact ⟨rfl, fin.out⟩

def OpenPost (c : TabC) (cf : Cfg) (w : World) (r : Ending) (w' : World) : Prop :=
  ∃ bk g t s F, r = .returned (.tuple #[ptrV bk, .bool true]) ∧ Law c w' bk g t cf (fun _ => 0) s F ∧ Below w.heap.size w w' ∧ w.heap.size ≤ bk ∧ w.heap.size ≤ g ∧ (∀ k ∈ F, w.heap.size ≤ k)

set_option maxHeartbeats 1000000 in
theorem opened_yes (c : TabC) (hn : c.News) (cf : Cfg) (w : World) (h : isCfg cf) :
    Calls Try.prog 4 #[cfgV cf] w (OpenPost c cf w) := by
  have hB1 : Below w.heap.size w (w.alloc (.cells #[.int .i64 cf.e, .int .i64 cf.b, .int .i64 cf.c, .int .i64 cf.l] 23)) := (Below.refl _ w).alloc (Nat.le_refl _) _
  have HB1 := hide hB1
  have hcall := hide (hn.yes (w.alloc (.cells #[.int .i64 cf.e, .int .i64 cf.b, .int .i64 cf.c, .int .i64 cf.l] 23)) cf h)
  obtain ⟨M, hM, hM0, hmk⟩ := makeRow
  obtain ⟨e, b, ch, lg⟩ := cf
  obtain ⟨d1, d2, d3, d4, d5, d6, d7, d8⟩ := h
  simp only at d1 d2 d3 d4 d5 d6 d7 d8
  clear hB1
  go_enter Try.func4, Try.ntmps4
  go_wp2_with fail
  refine hcall.out.mono ?_
  rintro _ w2 ⟨t, s, F, rfl, hb2, hT, hF, hxs, hlg⟩
  have c0 : w2.cell? ⟨w.heap.size, 0, none⟩ = some (.int .i64 e) := (hb2.cell (p := ⟨w.heap.size, 0, none⟩) (by simp)).trans (by simp)
  have c1 : w2.cell? ⟨w.heap.size, 1, none⟩ = some (.int .i64 b) := (hb2.cell (p := ⟨w.heap.size, 1, none⟩) (by simp)).trans (by simp)
  have c2 : w2.cell? ⟨w.heap.size, 2, none⟩ = some (.int .i64 ch) := (hb2.cell (p := ⟨w.heap.size, 2, none⟩) (by simp)).trans (by simp)
  have c3 : w2.cell? ⟨w.heap.size, 3, none⟩ = some (.int .i64 lg) := (hb2.cell (p := ⟨w.heap.size, 3, none⟩) (by simp)).trans (by simp)
  have hsz : w.heap.size < w2.heap.size := by have := hb2.size; simp at this; omega
  have fin := hide (HB1.out.trans (hb2.mono HB1.out.size))
  clear hb2 hcall
  go_wp2
  have fin2 := hide (show OpenPost c ⟨e, b, ch, lg⟩ w (.returned (.tuple #[ptrV (w2.heap.size + 1), .bool true])) ((w2.alloc (.cells M 3)).alloc (.cells #[.int .i64 e, .int .i64 b, .int .i64 ch, .int .i64 lg, ptrV t, .slice (some ⟨w2.heap.size, 0, none⟩) 2304 2304] 38)).drew from by
    have hB2 : Below w2.heap.size w2 ((w2.alloc (.cells M 3)).alloc (.cells #[.int .i64 e, .int .i64 b, .int .i64 ch, .int .i64 lg, ptrV t, .slice (some ⟨w2.heap.size, 0, none⟩) 2304 2304] 38)).drew := (((Below.refl _ w2).alloc (Nat.le_refl _) _).alloc (by simp) _).drew
    have hl := c.lt hT
    have hws := fin.out.size
    refine ⟨w2.heap.size + 1, w2.heap.size, t, s, F, rfl, ⟨⟨?_, ⟨M, ?_, hM, hM0⟩, by omega⟩, c.kept hT fun k hk => hB2.block k (hl k hk), fun h => by have := hl _ h; omega, fun h => by have := hl _ h; omega, fun a l _ => by rw [hxs]; rfl, hlg⟩, fin.out.trans (hB2.mono hws), by omega, by omega, fun k hk => by have := hF k hk; simp at this; omega⟩
    · have := World.alloc_heap_new (w2.alloc (.cells M 3)) (.cells #[.int .i64 e, .int .i64 b, .int .i64 ch, .int .i64 lg, ptrV t, .slice (some ⟨w2.heap.size, 0, none⟩) 2304 2304] 38)
      rw [World.size_alloc] at this
      exact this
    · exact (Below.heap_alloc (w2.alloc (.cells M 3)) _ _ (by simp)).trans (World.alloc_heap_new w2 _))
  clear hT hF hxs hlg hM hM0
  go_region
  go_wp2
  go_ret2
  exact fin2.out

end Go.Proofs.Ytkihifodifkieaa

import Derived.Test.YtkihifodifkieaaTab
import Derived.Test.YtkihifodifkieaaLop
namespace Go.Proofs.Ytkihifodifkieaa
open Go.RowKit Go.Shelf

attribute [local go_sem] Oper.semAt_some

set_option maxHeartbeats 400000 in
theorem isBudget_any (n : Int) (w : World) :
    Calls Try.prog 24 #[.int .i64 n] w fun r w' => w' = w ∧ r = .returned (.bool (decide (1 ≤ n) && decide (n ≤ 400))) := by
  by_cases h : 1 ≤ n
  · go_enter Try.func24, Try.ntmps24
    go_wp2
    go_ret
    exact ⟨rfl, ret_bool (by simp [h])⟩
  · have h2 : decide (1 ≤ n) = false := decide_eq_false h
    go_enter Try.func24, Try.ntmps24
    go_wp2
    go_ret
    exact ⟨rfl, ret_bool (by simp)⟩
theorem isBudget_yes (n : Int) (w : World) (h : 1 ≤ n ∧ n ≤ 400) : Calls Try.prog 24 #[.int .i64 n] w fun r w' => w' = w ∧ r = .returned (.bool true) := by
  have := isBudget_any n w
  rwa [show (decide (1 ≤ n) && decide (n ≤ 400)) = true by simp; omega] at this
theorem isBudget_no (n : Int) (w : World) (h : ¬ (1 ≤ n ∧ n ≤ 400)) : Calls Try.prog 24 #[.int .i64 n] w fun r w' => w' = w ∧ r = .returned (.bool false) := by
  have := isBudget_any n w
  rwa [show (decide (1 ≤ n) && decide (n ≤ 400)) = false by rw [Bool.and_eq_false_iff, decide_eq_false_iff_not, decide_eq_false_iff_not]; omega] at this

set_option maxRecDepth 4000 in
set_option maxHeartbeats 400000 in
theorem tabCells_any (w : World) (t : Nat) (e : Value) (b : Int) (xs : List Ent) (F : List Nat) (hT : TabF w t e b xs F) :
    Calls Try.prog 7 #[ptrV t] w fun r w' => r = .returned (.agg #[.int .i64 (needK (kindE e) xs), .int .i64 0, .int .i64 0, .int .i64 b]) ∧ Below w.heap.size w w' := by
  have t0 : w.cell? ⟨t, 0, none⟩ = some e := by simp [World.cell?, hT.blk]
  have t1 : w.cell? ⟨t, 1, none⟩ = some (.int .i64 b) := by simp [World.cell?, hT.blk]
  have tl := hT.lt
  have tn : t ≠ w.heap.size := by omega
  have tn' : w.heap.size ≠ t := by omega
  have hB : Below w.heap.size w (w.alloc (.cells #[.int .i64 0, .int .i64 0, .int .i64 0, .int .i64 0] 34)).drew := ((Below.refl _ w).alloc (Nat.le_refl _) _).drew
  have hE := (hT.later hB).eng
  obtain ⟨T, p, fl, ft, fc, D⟩ := hE.disp
  have mc := D.mc.m
  have cc := D.mc.c
  have eq := D.eq
  have hcl := hide (D.cells _ xs F hE)
  generalize needK (kindE e) xs = nn at *
  clear hT hE D
  subst eq
  go_enter Try.func7, Try.ntmps7
  have tl1 : t < w.heap.size + 1 := by omega
  go_wp2
  go_region_held3 (fun w' => w'.cell? ⟨t, 0, none⟩ = some (.iface T (ptrV p)) ∧ w'.cell? ⟨t, 1, none⟩ = some (.int .i64 b)) (go_keep)
    ((refine hcl.out.mono ?_; rintro _ w2 ⟨hb2, rfl⟩; have hc2 := (bcell hb2).1; (have r0 : w2.cell? ⟨w.heap.size, 0, none⟩ = some (.int .i64 0) := (hc2 _ _ (by simp)).trans (by simp)); (have r1 : w2.cell? ⟨w.heap.size, 1, none⟩ = some (.int .i64 0) := (hc2 _ _ (by simp)).trans (by simp)); (have r2 : w2.cell? ⟨w.heap.size, 2, none⟩ = some (.int .i64 0) := (hc2 _ _ (by simp)).trans (by simp)); (have r3 : w2.cell? ⟨w.heap.size, 3, none⟩ = some (.int .i64 0) := (hc2 _ _ (by simp)).trans (by simp)); (have rf : ∀ o, w2.frozen? ⟨w.heap.size, o, none⟩ = false := fun o => ((bcell hb2).2 _ _ (by simp)).trans (by simp))))
  go_wp2
  have hB2 : Below w.heap.size w w2 := hB.trans (hb2.mono (by simp))
  have hz2 : w.heap.size < w2.heap.size := by have := hb2.size; simp at this; omega
  exact bodyPost_ret (v := .agg #[.int .i64 nn, .int .i64 0, .int .i64 0, .int .i64 b]) (by simp [results, Try.results7, go_sem, *]) rfl ⟨rfl, (by repeat (first | exact Below.refl _ _ | refine below_drewN ?_ _ | refine Below.drew ?_ | refine Below.trans ?_ (Below.mono (by assumption) (by first | omega | (simp; omega) | simp)) | refine Below.alloc ?_ (by first | omega | (simp; omega) | simp) _ | refine Below.setCell ?_ (by first | omega | (simp; omega) | simp) _))⟩

set_option maxHeartbeats 400000 in
theorem setBudget_any (w : World) (t : Nat) (e : Value) (b : Int) (xs : List Ent) (F : List Nat) (n : Int) (hT : TabF w t e b xs F) :
    Calls Try.prog 12 #[ptrV t, .int .i64 n] w fun r w' => (¬ (1 ≤ n ∧ n ≤ 400) ∧ r = .returned (.int .i64 11) ∧ w' = w) ∨ (1 ≤ n ∧ n ≤ 400 ∧ r = .returned (.int .i64 0) ∧ TabF w' t e n xs F ∧ Only [t] w w') := by
  by_cases h : 1 ≤ n ∧ n ≤ 400
  · have t1 : w.cell? ⟨t, 1, none⟩ = some (.int .i64 b) := by simp [World.cell?, hT.blk]
    have tf : w.frozen? ⟨t, 1, none⟩ = false := by simp [World.frozen?, hT.blk]
    have fin := hide (show TabF (w.setCell ⟨t, 1, none⟩ (.int .i64 n)) t e n xs F ∧ Only [t] w (w.setCell ⟨t, 1, none⟩ (.int .i64 n)) from by
      refine ⟨⟨?_, hT.eng.kept fun k hk => Below.heap_setCell _ _ _ _ (fun e => hT.nt (by rw [show t = k from e.symm]; exact hk)), hT.nt⟩, ⟨rfl, rfl, rfl, by simp [World.setCell], fun k _ hn => Below.heap_setCell _ _ _ _ (by simpa using hn)⟩⟩
      rw [setCell_eq_setRow w t 1 _ _ _ _ hT.blk, setRow_heap w _ _ _ _ _ hT.blk]
      rfl)
    have hb := hide (isBudget_yes n w h)
    clear hT
    go_enter Try.func12, Try.ntmps12
    go_wp2_with fail
    refine hb.out.mono ?_
    rintro _ w ⟨rfl, rfl⟩
    go_wp2
    go_ret
    exact .inr ⟨h.1, h.2, rfl, fin.out⟩
  · have hb := hide (isBudget_no n w h)
    clear hT
    go_enter Try.func12, Try.ntmps12
    go_wp2_with fail
    refine hb.out.mono ?_
    rintro _ w ⟨rfl, rfl⟩
    go_wp2
    go_ret
    exact .inl ⟨h, rfl, rfl⟩

set_option maxHeartbeats 400000 in
theorem move_any (w : World) (t : Nat) (n : Int) : Calls Try.prog 13 #[ptrV t, .int .i64 n] w fun r w' => w' = w ∧ r = .returned (.int .i64 0) := by
  go_enter Try.func13, Try.ntmps13
  go_wp2
  go_ret
  exact ⟨rfl, rfl⟩
set_option maxHeartbeats 400000 in
theorem tstep_any (w : World) (t : Nat) : Calls Try.prog 14 #[ptrV t] w fun r w' => w' = w ∧ r = .returned (.int .i64 0) := by
  go_enter Try.func14, Try.ntmps14
  go_wp2
  go_ret
  exact ⟨rfl, rfl⟩
set_option maxHeartbeats 400000 in
theorem abort_any (w : World) (t : Nat) : Calls Try.prog 15 #[ptrV t] w fun r w' => w' = w ∧ r = .returned (.int .i64 0) := by
  go_enter Try.func15, Try.ntmps15
  go_wp2
  go_ret
  exact ⟨rfl, rfl⟩

set_option maxHeartbeats 400000 in
theorem isConfig_yes (cf : Cfg) (w : World) (h : isCfg cf) : Calls Try.prog 16 #[cfgV cf] w fun r w' => r = .returned (.bool true) ∧ Below w.heap.size w w' := by
  obtain ⟨e, b, ch, lg⟩ := cf
  obtain ⟨d1, d2, d3, d4, d5, d6, d7, d8⟩ := h
  simp only at d1 d2 d3 d4 d5 d6 d7 d8
  have hb := hide (isBudget_yes b (w.alloc (.cells #[.int .i64 e, .int .i64 b, .int .i64 ch, .int .i64 lg] 23)) ⟨d3, d4⟩)
  go_enter Try.func16, Try.ntmps16
  go_wp2_with fail
  refine hb.out.mono ?_
  rintro _ w2 ⟨rfl, rfl⟩
  go_wp2
  go_ret
  exact ⟨rfl, (Below.refl _ w).alloc (Nat.le_refl _) _⟩

set_option maxHeartbeats 1000000 in
theorem isConfig_no (cf : Cfg) (w : World) (h : ¬ isCfg cf) : Calls Try.prog 16 #[cfgV cf] w fun r w' => r = .returned (.bool false) ∧ Below w.heap.size w w' := by
  have hcs := cfg_cases cf
  obtain ⟨e, b, ch, lg⟩ := cf
  simp only at hcs
  have fin := hide (show Below w.heap.size w (w.alloc (.cells #[.int .i64 e, .int .i64 b, .int .i64 ch, .int .i64 lg] 23)) from (Below.refl _ w).alloc (Nat.le_refl _) _)
  rcases hcs with h1 | h1 | ⟨d1, d2⟩ | ⟨d1, d2, d3⟩ | ⟨d1, d2, d3, d4⟩ | ⟨d1, d2, d3, d4, d5⟩ | ⟨d1, d2, d3, d4, d5, d6⟩ | ⟨d1, d2, d3, d4, d5, d6, d7⟩ | ⟨d1, d2, d3, d4, d5, d6, d7, d8⟩
  · exact absurd h1 h
  · have q : decide (1 ≤ e) = false := decide_eq_false (by omega)
    clear h
    go_enter Try.func16, Try.ntmps16
    go_wp2
    go_ret
    exact ⟨rfl, fin.out⟩
  · have q : decide (e ≤ 3) = false := decide_eq_false (by omega)
    clear h
    go_enter Try.func16, Try.ntmps16
    go_wp2
    go_ret
    exact ⟨rfl, fin.out⟩
  · have hb := hide (isBudget_no b (w.alloc (.cells #[.int .i64 e, .int .i64 b, .int .i64 ch, .int .i64 lg] 23)) (by omega))
    clear h d3
    go_enter Try.func16, Try.ntmps16
    go_wp2_with fail
    refine hb.out.mono ?_
    rintro _ w2 ⟨rfl, rfl⟩
    go_wp2
    go_ret
    exact ⟨rfl, fin.out⟩
  · have hb := hide (isBudget_no b (w.alloc (.cells #[.int .i64 e, .int .i64 b, .int .i64 ch, .int .i64 lg] 23)) (by omega))
    clear h d3 d4
    go_enter Try.func16, Try.ntmps16
    go_wp2_with fail
    refine hb.out.mono ?_
    rintro _ w2 ⟨rfl, rfl⟩
    go_wp2
    go_ret
    exact ⟨rfl, fin.out⟩
  · have hb := hide (isBudget_yes b (w.alloc (.cells #[.int .i64 e, .int .i64 b, .int .i64 ch, .int .i64 lg] 23)) ⟨d3, d4⟩)
    have q : decide (1 ≤ ch) = false := decide_eq_false (by omega)
    clear h d3 d4
    go_enter Try.func16, Try.ntmps16
    go_wp2_with fail
    refine hb.out.mono ?_
    rintro _ w2 ⟨rfl, rfl⟩
    go_wp2
    go_ret
    exact ⟨rfl, fin.out⟩
  · have hb := hide (isBudget_yes b (w.alloc (.cells #[.int .i64 e, .int .i64 b, .int .i64 ch, .int .i64 lg] 23)) ⟨d3, d4⟩)
    have q : decide (ch ≤ 8) = false := decide_eq_false (by omega)
    clear h d3 d4
    go_enter Try.func16, Try.ntmps16
    go_wp2_with fail
    refine hb.out.mono ?_
    rintro _ w2 ⟨rfl, rfl⟩
    go_wp2
    go_ret
    exact ⟨rfl, fin.out⟩
  · have hb := hide (isBudget_yes b (w.alloc (.cells #[.int .i64 e, .int .i64 b, .int .i64 ch, .int .i64 lg] 23)) ⟨d3, d4⟩)
    have q : decide (1 ≤ lg) = false := decide_eq_false (by omega)
    clear h d3 d4
    go_enter Try.func16, Try.ntmps16
    go_wp2_with fail
    refine hb.out.mono ?_
    rintro _ w2 ⟨rfl, rfl⟩
    go_wp2
    go_ret
    exact ⟨rfl, fin.out⟩
  · have hb := hide (isBudget_yes b (w.alloc (.cells #[.int .i64 e, .int .i64 b, .int .i64 ch, .int .i64 lg] 23)) ⟨d3, d4⟩)
    have q : decide (lg ≤ 16) = false := decide_eq_false (by omega)
    clear h d3 d4
    go_enter Try.func16, Try.ntmps16
    go_wp2_with fail
    refine hb.out.mono ?_
    rintro _ w2 ⟨rfl, rfl⟩
    go_wp2
    go_ret
    exact ⟨rfl, fin.out⟩

set_option maxHeartbeats 400000 in
theorem new_no (w : World) (cf : Cfg) (h : ¬ isCfg cf) : Calls Try.prog 8 #[cfgV cf] w fun r w' => r = .returned (.tuple #[.pointer none, .int .i64 1]) ∧ Below w.heap.size w w' := by
  have hB := hide (show Below w.heap.size w (w.alloc (.cells #[.int .i64 cf.e, .int .i64 cf.b, .int .i64 cf.c, .int .i64 cf.l] 23)) from (Below.refl _ w).alloc (Nat.le_refl _) _)
  have hc := hide (isConfig_no cf (w.alloc (.cells #[.int .i64 cf.e, .int .i64 cf.b, .int .i64 cf.c, .int .i64 cf.l] 23)) h)
  obtain ⟨e, b, ch, lg⟩ := cf
  go_enter Try.func8, Try.ntmps8
  go_wp2_with fail
  refine hc.out.mono ?_
  rintro _ w2 ⟨rfl, hb2⟩
  have fin := hide (hB.out.trans (hb2.mono hB.out.size))
  clear hb2 hc
  go_wp2
  go_ret2
  exact ⟨rfl, fin.out⟩

set_option maxHeartbeats 400000 in
theorem newEng_any (k : Int) (h1 : 1 ≤ k) (h3 : k ≤ 3) (w : World) : Calls Try.prog 17 #[.int .i64 k] w fun r w' => ∃ T q F, r = .returned (.iface T (ptrV q)) ∧ Below w.heap.size w w' ∧ EngF w' (.iface T (ptrV q)) [] F ∧ kindE (.iface T (ptrV q)) = k ∧ ∀ x ∈ F, w.heap.size ≤ x := by
  rcases (show k = 1 ∨ k = 2 ∨ k = 3 by omega) with rfl | rfl | rfl
  · have hn := hide (newList_any w)
    go_enter Try.func17, Try.ntmps17
    go_wp2_with fail
    refine hn.out.mono ?_
    rintro _ w2 ⟨hB, p, F, h1, h2, rfl⟩
    have fin := hide (show ∃ T q F, Ending.returned (Value.iface 63 (ptrV p)) = .returned (.iface T (ptrV q)) ∧ Below w.heap.size w w2 ∧ EngF w2 (.iface T (ptrV q)) [] F ∧ kindE (.iface T (ptrV q)) = 1 ∧ ∀ x ∈ F, w.heap.size ≤ x from ⟨_, _, F, rfl, hB, .mkL List.Pairwise.nil (by simp) h1, rfl, h2⟩)
    clear h1 h2 hB
    go_wp2
    go_ret
    exact fin.out
  · have hn := hide (newTrie_any w)
    go_enter Try.func17, Try.ntmps17
    go_wp2_with fail
    refine hn.out.mono ?_
    rintro _ w2 ⟨hB, p, F, h1, h2, rfl⟩
    have fin := hide (show ∃ T q F, Ending.returned (Value.iface 65 (ptrV p)) = .returned (.iface T (ptrV q)) ∧ Below w.heap.size w w2 ∧ EngF w2 (.iface T (ptrV q)) [] F ∧ kindE (.iface T (ptrV q)) = 2 ∧ ∀ x ∈ F, w.heap.size ≤ x from ⟨_, _, F, rfl, hB, .mkT List.Pairwise.nil (by simp) h1, rfl, h2⟩)
    clear h1 h2 hB
    go_wp2
    go_ret
    exact fin.out
  · have hn := hide (newRanges_any w)
    go_enter Try.func17, Try.ntmps17
    go_wp2_with fail
    refine hn.out.mono ?_
    rintro _ w2 ⟨hB, p, F, h1, h2, rfl⟩
    have fin := hide (show ∃ T q F, Ending.returned (Value.iface 67 (ptrV p)) = .returned (.iface T (ptrV q)) ∧ Below w.heap.size w w2 ∧ EngF w2 (.iface T (ptrV q)) [] F ∧ kindE (.iface T (ptrV q)) = 3 ∧ ∀ x ∈ F, w.heap.size ≤ x from ⟨_, _, F, rfl, hB, .mkR List.Pairwise.nil (by simp) h1, rfl, h2⟩)
    clear h1 h2 hB
    go_wp2
    go_ret
    exact fin.out

set_option maxHeartbeats 400000 in
theorem new_yes (w : World) (cf : Cfg) (h : isCfg cf) : Calls Try.prog 8 #[cfgV cf] w fun r w' => ∃ t e F, r = .returned (.tuple #[ptrV t, .int .i64 0]) ∧ Below w.heap.size w w' ∧ TabF w' t e cf.b [] F ∧ kindE e = cf.e ∧ w.heap.size ≤ t ∧ (∀ k ∈ F, w.heap.size ≤ k) := by
  have hB := hide (show Below w.heap.size w (w.alloc (.cells #[.int .i64 cf.e, .int .i64 cf.b, .int .i64 cf.c, .int .i64 cf.l] 23)) from (Below.refl _ w).alloc (Nat.le_refl _) _)
  have hc := hide (isConfig_yes cf (w.alloc (.cells #[.int .i64 cf.e, .int .i64 cf.b, .int .i64 cf.c, .int .i64 cf.l] 23)) h)
  obtain ⟨d1, d2, _⟩ := h
  obtain ⟨k, b, ch, lg⟩ := cf
  simp only at d1 d2
  have hne := hide (fun W => newEng_any k d1 d2 W)
  go_enter Try.func8, Try.ntmps8
  go_wp2_with fail
  refine hc.out.mono ?_
  rintro _ w2 ⟨rfl, hb2⟩
  have c0 : w2.cell? ⟨w.heap.size, 0, none⟩ = some (.int .i64 k) := (hb2.cell (p := ⟨w.heap.size, 0, none⟩) (by simp)).trans (by simp)
  have c1 : w2.cell? ⟨w.heap.size, 1, none⟩ = some (.int .i64 b) := (hb2.cell (p := ⟨w.heap.size, 1, none⟩) (by simp)).trans (by simp)
  have hsz : w.heap.size < w2.heap.size := by have := hb2.size; simp at this; omega
  have HB2 := hide (hB.out.trans (hb2.mono hB.out.size))
  clear hb2 hc
  go_wp2
  go_region_held3 (fun w' => w'.cell? ⟨w.heap.size, 0, none⟩ = some (.int .i64 k) ∧ w'.cell? ⟨w.heap.size, 1, none⟩ = some (.int .i64 b)) (go_keep)
    ((go_at_call 17; refine (hne.out _).mono ?_; rintro _ w3 ⟨T, q, F, rfl, hb3, hE, hke, hF⟩; (have k0 : ∀ o, w3.cell? ⟨w.heap.size, o, none⟩ = w2.cell? ⟨w.heap.size, o, none⟩ := fun o => hb3.cell (p := ⟨w.heap.size, o, none⟩) (by simpa using hsz)); (have hsz3 : w.heap.size < w3.heap.size := by have := hb3.size; simp at this; omega)))
  have hb3' : Below w2.heap.size w2 w3 := (Below.refl _ w2).drew.trans hb3
  have fin := hide (show Below w.heap.size w (w3.alloc (.cells #[.iface T (ptrV q), .int .i64 b] 49)) ∧ TabF (w3.alloc (.cells #[.iface T (ptrV q), .int .i64 b] 49)) w3.heap.size (.iface T (ptrV q)) b [] F ∧ kindE (.iface T (ptrV q)) = k ∧ w.heap.size ≤ w3.heap.size ∧ (∀ k ∈ F, w.heap.size ≤ k) from by
    have hBl : Below w3.heap.size w3 (w3.alloc (.cells #[.iface T (ptrV q), .int .i64 b] 49)) := (Below.refl _ w3).alloc (Nat.le_refl _) _
    have hB3 := HB2.out.trans (hb3'.mono HB2.out.size)
    exact ⟨hB3.trans (hBl.mono hB3.size), ⟨World.alloc_heap_new w3 _, hE.later hBl, fun hk => by have := hE.lt _ hk; omega⟩, hke, by omega, fun k hk => by have := hF k hk; simp at this; omega⟩)
  clear hE hF hb3 hb3' k0 hke hne
  go_wp2
  go_ret2
  exact ⟨_, _, _, rfl, fin.out⟩

-- THE INSTANCE
structure S1 where
  xs : List Ent
  b : Int
  lg : Int
  k : Int
def tab1 : TabC where
  S := S1
  T w t s F := (∃ e Fe, (TabF w t e s.b s.xs Fe ∧ kindE e = s.k) ∧ F = t :: Fe) ∧ 1 ≤ s.b ∧ s.b ≤ 400 ∧ 0 ≤ s.lg ∧ s.lg ≤ 16
  xs s := s.xs
  bud s := s.b
  act s := needK s.k s.xs
  tgt _ := 0
  lgd _ := 0
  log s := s.lg
  lt := by
    rintro w t s F ⟨⟨e, Fe, ⟨h, hke⟩, rfl⟩, _⟩ k hk
    rcases List.mem_cons.1 hk with rfl | hk
    · exact h.lt
    · exact h.eng.lt k hk
  kept := by
    rintro w w' t s F ⟨⟨e, Fe, ⟨h, hke⟩, rfl⟩, hr⟩ hk
    exact ⟨⟨e, Fe, ⟨h.kept (hk t (by simp)) fun k hk' => hk k (by simp [hk']), hke⟩, rfl⟩, hr⟩
  sorted := by
    rintro w t s F ⟨⟨e, Fe, ⟨h, hke⟩, rfl⟩, _⟩
    exact h.eng.sorted
  ok := by
    rintro w t s F ⟨⟨e, Fe, ⟨h, hke⟩, rfl⟩, _⟩
    exact h.eng.ok
  nums := by
    rintro w t s F ⟨⟨e, Fe, ⟨h, hke⟩, rfl⟩, h1, h2, h3, h4⟩
    have := needK_bd (k := s.k) h.eng.sorted h.eng.ok
    exact ⟨by omega, by omega, by omega, by omega, by omega, by omega, by omega, by omega, by omega⟩

theorem new_cons {w : World} {t : Nat} {F F' : List Nat} (h : NewF w F F') : NewF w (t :: F) (t :: F') := fun k hk => by
  rcases List.mem_cons.1 hk with rfl | hk
  · exact .inl (by simp)
  · exact (h k hk).imp (fun h => by simp [h]) id
theorem only_cons {w w' : World} {t : Nat} {F : List Nat} (h : Only F w w') : Only (t :: F) w w' := h.mono fun x hx _ => by simp [hx]

theorem tab1_news : tab1.News := ⟨new_no, fun w cf h => (new_yes w cf h).mono (by
  rintro r w' ⟨t, e, F, h1, h2, h3, hke, h4, h5⟩
  obtain ⟨_, _, d3, d4, _, _, d7, d8⟩ := h
  exact ⟨t, ⟨[], cf.b, cf.l, cf.e⟩, t :: F, h1, h2, ⟨⟨e, F, ⟨h3, hke⟩, rfl⟩, d3, d4, (by show (0 : Int) ≤ cf.l; omega), d8⟩, fun k hk => by
    rcases List.mem_cons.1 hk with rfl | hk
    · exact h4
    · exact h5 k hk, rfl, rfl⟩)⟩

theorem chg_none {xs : List Ent} {a l n : Int} (h : isPfx a l = true) (h1 : 1 ≤ n) (h2 : n ≤ 255) : chgE xs a l n = 0 := by
  unfold chgE
  rw [if_neg (by simp [h]), if_neg (by omega), if_neg (by omega)]

end Go.Proofs.Ytkihifodifkieaa

import Derived.Test.YtfioeangigicfaaTab
import Derived.Test.YtfioeangigicfaaLro
namespace Go.Proofs.Ytfioeangigicfaa
open Go.RowKit Go.Shelf

attribute [local go_sem] Oper.semAt_some

set_option maxHeartbeats 400000 in
theorem isBudget_any (n : Int) (w : World) :
    Calls Try.prog 44 #[.int .i64 n] w fun r w' => w' = w ∧ r = .returned (.bool (decide (1 ≤ n) && decide (n ≤ 400))) := by
  by_cases h : 1 ≤ n
  · go_enter Try.func44, Try.ntmps44
    go_wp2
    go_ret
    exact ⟨rfl, ret_bool (by simp [h])⟩
  · have h2 : decide (1 ≤ n) = false := decide_eq_false h
    go_enter Try.func44, Try.ntmps44
    go_wp2
    go_ret
    exact ⟨rfl, ret_bool (by simp)⟩
theorem isBudget_yes (n : Int) (w : World) (h : 1 ≤ n ∧ n ≤ 400) : Calls Try.prog 44 #[.int .i64 n] w fun r w' => w' = w ∧ r = .returned (.bool true) := by
  have := isBudget_any n w
  rwa [show (decide (1 ≤ n) && decide (n ≤ 400)) = true by simp; omega] at this
theorem isBudget_no (n : Int) (w : World) (h : ¬ (1 ≤ n ∧ n ≤ 400)) : Calls Try.prog 44 #[.int .i64 n] w fun r w' => w' = w ∧ r = .returned (.bool false) := by
  have := isBudget_any n w
  rwa [show (decide (1 ≤ n) && decide (n ≤ 400)) = false by rw [Bool.and_eq_false_iff, decide_eq_false_iff_not, decide_eq_false_iff_not]; omega] at this

set_option maxHeartbeats 400000 in
theorem tabCells_any (w : World) (t : Nat) (e : Value) (b : Int) (xs : List Ent) (F : List Nat) (hT : TabF w t e b xs F) :
    Calls Try.prog 11 #[ptrV t] w fun r w' => r = .returned (.agg #[.int .i64 xs.length, .int .i64 0, .int .i64 0, .int .i64 b]) ∧ Below w.heap.size w w' := by
  have t0 : w.cell? ⟨t, 0, none⟩ = some e := by simp [World.cell?, hT.blk]
  have t1 : w.cell? ⟨t, 1, none⟩ = some (.int .i64 b) := by simp [World.cell?, hT.blk]
  have tl := hT.lt
  have tn : t ≠ w.heap.size := by omega
  have tn' : w.heap.size ≠ t := by omega
  have hB : Below w.heap.size w (w.alloc (.cells #[.int .i64 0, .int .i64 0, .int .i64 0, .int .i64 0] 36)).drew := ((Below.refl _ w).alloc (Nat.le_refl _) _).drew
  have hE := (hT.later hB).eng
  obtain ⟨lp, rfl, hL, _⟩ := hE
  have hcl := hide (lstCells_any lp xs F _ hL)
  have mc := m_cells
  clear hT hL hB
  go_enter Try.func11, Try.ntmps11
  go_wp2
  go_region_held3 (fun w' => w'.cell? ⟨t, 0, none⟩ = some (.iface 89 (ptrV lp)) ∧ w'.cell? ⟨t, 1, none⟩ = some (.int .i64 b)) (go_keep)
    ((go_at_call 79; refine hcl.out.mono ?_; rintro _ w2 ⟨rfl, rfl⟩))
  go_wp2
  refine bodyPost_ret (results_cell_row (P := Try.prog) rfl _ _ w.heap.size 36 #[.int .i64 xs.length, .int .i64 0, .int .i64 0, .int .i64 b] (0, 0) _ rfl (World.alloc_heap_new w _) Try.underlying36 rfl (by kernel_rfl)) rfl ?_
  exact ⟨rfl, ((Below.refl _ w).alloc (Nat.le_refl _) _).drew⟩

set_option maxHeartbeats 400000 in
theorem setBudget_any (w : World) (t : Nat) (e : Value) (b : Int) (xs : List Ent) (F : List Nat) (n : Int) (hT : TabF w t e b xs F) :
    Calls Try.prog 27 #[ptrV t, .int .i64 n] w fun r w' => (¬ (1 ≤ n ∧ n ≤ 400) ∧ r = .returned (.int .i64 11) ∧ w' = w) ∨ (1 ≤ n ∧ n ≤ 400 ∧ r = .returned (.int .i64 0) ∧ TabF w' t e n xs F ∧ Only [t] w w') := by
  by_cases h : 1 ≤ n ∧ n ≤ 400
  · have t1 : w.cell? ⟨t, 1, none⟩ = some (.int .i64 b) := by simp [World.cell?, hT.blk]
    have tf : w.frozen? ⟨t, 1, none⟩ = false := by simp [World.frozen?, hT.blk]
    have fin := hide (show TabF (w.setCell ⟨t, 1, none⟩ (.int .i64 n)) t e n xs F ∧ Only [t] w (w.setCell ⟨t, 1, none⟩ (.int .i64 n)) from by
      refine ⟨⟨?_, hT.eng.kept fun k hk => Below.heap_setCell _ _ _ _ (fun e => hT.nt (by rw [show t = k from e.symm]; exact hk)), hT.nt⟩, ⟨rfl, rfl, rfl, by simp [World.setCell], fun k _ hn => Below.heap_setCell _ _ _ _ (by simpa using hn)⟩⟩
      rw [setCell_eq_setRow w t 1 _ _ _ _ hT.blk, setRow_heap w _ _ _ _ _ hT.blk]
      rfl)
    have hb := hide (isBudget_yes n w h)
    clear hT
    go_enter Try.func27, Try.ntmps27
    go_wp2_with fail
    refine hb.out.mono ?_
    rintro _ w ⟨rfl, rfl⟩
    go_wp2
    go_ret
    exact .inr ⟨h.1, h.2, rfl, fin.out⟩
  · have hb := hide (isBudget_no n w h)
    clear hT
    go_enter Try.func27, Try.ntmps27
    go_wp2_with fail
    refine hb.out.mono ?_
    rintro _ w ⟨rfl, rfl⟩
    go_wp2
    go_ret
    exact .inl ⟨h, rfl, rfl⟩

set_option maxHeartbeats 400000 in
theorem move_any (w : World) (t : Nat) (n : Int) : Calls Try.prog 16 #[ptrV t, .int .i64 n] w fun r w' => w' = w ∧ r = .returned (.int .i64 0) := by
  go_enter Try.func16, Try.ntmps16
  go_wp2
  go_ret
  exact ⟨rfl, rfl⟩
set_option maxHeartbeats 400000 in
theorem tstep_any (w : World) (t : Nat) : Calls Try.prog 17 #[ptrV t] w fun r w' => w' = w ∧ r = .returned (.int .i64 0) := by
  go_enter Try.func17, Try.ntmps17
  go_wp2
  go_ret
  exact ⟨rfl, rfl⟩
set_option maxHeartbeats 400000 in
theorem abort_any (w : World) (t : Nat) : Calls Try.prog 18 #[ptrV t] w fun r w' => w' = w ∧ r = .returned (.int .i64 0) := by
  go_enter Try.func18, Try.ntmps18
  go_wp2
  go_ret
  exact ⟨rfl, rfl⟩

set_option maxHeartbeats 400000 in
theorem isConfig_yes (cf : Cfg) (w : World) (h : isCfg cf) : Calls Try.prog 42 #[cfgV cf] w fun r w' => r = .returned (.bool true) ∧ Below w.heap.size w w' := by
  obtain ⟨e, b, ch, lg⟩ := cf
  obtain ⟨d1, d2, d3, d4, d5, d6, d7, d8⟩ := h
  simp only at d1 d2 d3 d4 d5 d6 d7 d8
  have hb := hide (isBudget_yes b (w.alloc (.cells #[.int .i64 e, .int .i64 b, .int .i64 ch, .int .i64 lg] 23)) ⟨d3, d4⟩)
  go_enter Try.func42, Try.ntmps42
  go_wp2_with fail
  refine hb.out.mono ?_
  rintro _ w2 ⟨rfl, rfl⟩
  go_wp2
  go_ret
  exact ⟨rfl, (Below.refl _ w).alloc (Nat.le_refl _) _⟩

set_option maxHeartbeats 1000000 in
theorem isConfig_no (cf : Cfg) (w : World) (h : ¬ isCfg cf) : Calls Try.prog 42 #[cfgV cf] w fun r w' => r = .returned (.bool false) ∧ Below w.heap.size w w' := by
  have hcs := cfg_cases cf
  obtain ⟨e, b, ch, lg⟩ := cf
  simp only at hcs
  have fin := hide (show Below w.heap.size w (w.alloc (.cells #[.int .i64 e, .int .i64 b, .int .i64 ch, .int .i64 lg] 23)) from (Below.refl _ w).alloc (Nat.le_refl _) _)
  rcases hcs with h1 | h1 | ⟨d1, d2⟩ | ⟨d1, d2, d3⟩ | ⟨d1, d2, d3, d4⟩ | ⟨d1, d2, d3, d4, d5⟩ | ⟨d1, d2, d3, d4, d5, d6⟩ | ⟨d1, d2, d3, d4, d5, d6, d7⟩ | ⟨d1, d2, d3, d4, d5, d6, d7, d8⟩
  · exact absurd h1 h
  · have q : decide (1 ≤ e) = false := decide_eq_false (by omega)
    clear h
    go_enter Try.func42, Try.ntmps42
    go_wp2
    go_ret
    exact ⟨rfl, fin.out⟩
  · have q : decide (e ≤ 3) = false := decide_eq_false (by omega)
    clear h
    go_enter Try.func42, Try.ntmps42
    go_wp2
    go_ret
    exact ⟨rfl, fin.out⟩
  · have hb := hide (isBudget_no b (w.alloc (.cells #[.int .i64 e, .int .i64 b, .int .i64 ch, .int .i64 lg] 23)) (by omega))
    clear h d3
    go_enter Try.func42, Try.ntmps42
    go_wp2_with fail
    refine hb.out.mono ?_
    rintro _ w2 ⟨rfl, rfl⟩
    go_wp2
    go_ret
    exact ⟨rfl, fin.out⟩
  · have hb := hide (isBudget_no b (w.alloc (.cells #[.int .i64 e, .int .i64 b, .int .i64 ch, .int .i64 lg] 23)) (by omega))
    clear h d3 d4
    go_enter Try.func42, Try.ntmps42
    go_wp2_with fail
    refine hb.out.mono ?_
    rintro _ w2 ⟨rfl, rfl⟩
    go_wp2
    go_ret
    exact ⟨rfl, fin.out⟩
  · have hb := hide (isBudget_yes b (w.alloc (.cells #[.int .i64 e, .int .i64 b, .int .i64 ch, .int .i64 lg] 23)) ⟨d3, d4⟩)
    have q : decide (1 ≤ ch) = false := decide_eq_false (by omega)
    clear h d3 d4
    go_enter Try.func42, Try.ntmps42
    go_wp2_with fail
    refine hb.out.mono ?_
    rintro _ w2 ⟨rfl, rfl⟩
    go_wp2
    go_ret
    exact ⟨rfl, fin.out⟩
  · have hb := hide (isBudget_yes b (w.alloc (.cells #[.int .i64 e, .int .i64 b, .int .i64 ch, .int .i64 lg] 23)) ⟨d3, d4⟩)
    have q : decide (ch ≤ 8) = false := decide_eq_false (by omega)
    clear h d3 d4
    go_enter Try.func42, Try.ntmps42
    go_wp2_with fail
    refine hb.out.mono ?_
    rintro _ w2 ⟨rfl, rfl⟩
    go_wp2
    go_ret
    exact ⟨rfl, fin.out⟩
  · have hb := hide (isBudget_yes b (w.alloc (.cells #[.int .i64 e, .int .i64 b, .int .i64 ch, .int .i64 lg] 23)) ⟨d3, d4⟩)
    have q : decide (1 ≤ lg) = false := decide_eq_false (by omega)
    clear h d3 d4
    go_enter Try.func42, Try.ntmps42
    go_wp2_with fail
    refine hb.out.mono ?_
    rintro _ w2 ⟨rfl, rfl⟩
    go_wp2
    go_ret
    exact ⟨rfl, fin.out⟩
  · have hb := hide (isBudget_yes b (w.alloc (.cells #[.int .i64 e, .int .i64 b, .int .i64 ch, .int .i64 lg] 23)) ⟨d3, d4⟩)
    have q : decide (lg ≤ 16) = false := decide_eq_false (by omega)
    clear h d3 d4
    go_enter Try.func42, Try.ntmps42
    go_wp2_with fail
    refine hb.out.mono ?_
    rintro _ w2 ⟨rfl, rfl⟩
    go_wp2
    go_ret
    exact ⟨rfl, fin.out⟩

set_option maxHeartbeats 400000 in
theorem new_no (w : World) (cf : Cfg) (h : ¬ isCfg cf) : Calls Try.prog 23 #[cfgV cf] w fun r w' => r = .returned (.tuple #[.pointer none, .int .i64 1]) ∧ Below w.heap.size w w' := by
  have hB := hide (show Below w.heap.size w (w.alloc (.cells #[.int .i64 cf.e, .int .i64 cf.b, .int .i64 cf.c, .int .i64 cf.l] 23)) from (Below.refl _ w).alloc (Nat.le_refl _) _)
  have hc := hide (isConfig_no cf (w.alloc (.cells #[.int .i64 cf.e, .int .i64 cf.b, .int .i64 cf.c, .int .i64 cf.l] 23)) h)
  obtain ⟨e, b, ch, lg⟩ := cf
  go_enter Try.func23, Try.ntmps23
  go_wp2_with fail
  refine hc.out.mono ?_
  rintro _ w2 ⟨rfl, hb2⟩
  have fin := hide (hB.out.trans (hb2.mono hB.out.size))
  clear hb2 hc
  go_wp2
  go_ret2
  exact ⟨rfl, fin.out⟩

set_option maxHeartbeats 400000 in
theorem new_yes (w : World) (cf : Cfg) (h : isCfg cf) : Calls Try.prog 23 #[cfgV cf] w fun r w' => ∃ t e F, r = .returned (.tuple #[ptrV t, .int .i64 0]) ∧ Below w.heap.size w w' ∧ TabF w' t e cf.b [] F ∧ w.heap.size ≤ t ∧ (∀ k ∈ F, w.heap.size ≤ k) := by
  have hB := hide (show Below w.heap.size w (w.alloc (.cells #[.int .i64 cf.e, .int .i64 cf.b, .int .i64 cf.c, .int .i64 cf.l] 23)) from (Below.refl _ w).alloc (Nat.le_refl _) _)
  have hc := hide (isConfig_yes cf (w.alloc (.cells #[.int .i64 cf.e, .int .i64 cf.b, .int .i64 cf.c, .int .i64 cf.l] 23)) h)
  obtain ⟨e, b, ch, lg⟩ := cf
  go_enter Try.func23, Try.ntmps23
  go_wp2_with fail
  refine hc.out.mono ?_
  rintro _ w2 ⟨rfl, hb2⟩
  have c1 : w2.cell? ⟨w.heap.size, 1, none⟩ = some (.int .i64 b) := (hb2.cell (p := ⟨w.heap.size, 1, none⟩) (by simp)).trans (by simp)
  have hsz : w.heap.size < w2.heap.size := by have := hb2.size; simp at this; omega
  have HB2 := hide (hB.out.trans (hb2.mono hB.out.size))
  clear hb2 hc
  go_wp2
  go_region_held3 (fun w' => w'.cell? ⟨w.heap.size, 1, none⟩ = some (.int .i64 b)) (go_keep)
    ((go_at_call 43; refine (newList_any _).mono ?_; rintro _ w3 ⟨hb3, lp, F, hL, hF, rfl⟩; (have k0 : ∀ o, w3.cell? ⟨w.heap.size, o, none⟩ = w2.cell? ⟨w.heap.size, o, none⟩ := fun o => hb3.cell (p := ⟨w.heap.size, o, none⟩) (by simpa using hsz)); (have hsz3 : w.heap.size < w3.heap.size := by have := hb3.size; simp at this; omega)))
  have hb3' : Below w2.heap.size w2 w3 := (Below.refl _ w2).drew.trans hb3
  have fin := hide (show Below w.heap.size w (w3.alloc (.cells #[.iface 89 (ptrV lp), .int .i64 b] 74)) ∧ TabF (w3.alloc (.cells #[.iface 89 (ptrV lp), .int .i64 b] 74)) w3.heap.size (.iface 89 (ptrV lp)) b [] F ∧ w.heap.size ≤ w3.heap.size ∧ (∀ k ∈ F, w.heap.size ≤ k) from by
    have hBl : Below w3.heap.size w3 (w3.alloc (.cells #[.iface 89 (ptrV lp), .int .i64 b] 74)) := (Below.refl _ w3).alloc (Nat.le_refl _) _
    have hB3 := HB2.out.trans (hb3'.mono HB2.out.size)
    exact ⟨hB3.trans (hBl.mono hB3.size), ⟨World.alloc_heap_new w3 _, ⟨lp, rfl, hL.later hBl, by simp⟩, fun hk => by have := hL.lt _ hk; omega⟩, by omega, fun k hk => by have := hF k hk; simp at this; omega⟩)
  clear hL hF hb3 hb3' k0
  go_wp2
  go_ret2
  exact ⟨_, _, _, rfl, fin.out⟩

-- THE INSTANCE
structure S1 where
  xs : List Ent
  b : Int
  lg : Int
def tab1 : TabC where
  S := S1
  T w t s F := (∃ e Fe, TabF w t e s.b s.xs Fe ∧ F = t :: Fe) ∧ 1 ≤ s.b ∧ s.b ≤ 400 ∧ 0 ≤ s.lg ∧ s.lg ≤ 16
  xs s := s.xs
  bud s := s.b
  act s := s.xs.length
  tgt _ := 0
  lgd _ := 0
  log s := s.lg
  lt := by
    rintro w t s F ⟨⟨e, Fe, h, rfl⟩, _⟩ k hk
    rcases List.mem_cons.1 hk with rfl | hk
    · exact h.lt
    · exact h.eng.lt k hk
  kept := by
    rintro w w' t s F ⟨⟨e, Fe, h, rfl⟩, hr⟩ hk
    exact ⟨⟨e, Fe, h.kept (hk t (by simp)) fun k hk' => hk k (by simp [hk']), rfl⟩, hr⟩
  sorted := by
    rintro w t s F ⟨⟨e, Fe, h, rfl⟩, _⟩
    exact h.eng.sorted
  ok := by
    rintro w t s F ⟨⟨e, Fe, h, rfl⟩, _⟩
    exact h.eng.ok
  nums := by
    rintro w t s F ⟨⟨e, Fe, h, rfl⟩, h1, h2, h3, h4⟩
    have := ok_len h.eng.sorted h.eng.ok
    exact ⟨by omega, by omega, by omega, by omega, by omega, by omega, by omega, by omega, by omega⟩

theorem new_cons {w : World} {t : Nat} {F F' : List Nat} (h : NewF w F F') : NewF w (t :: F) (t :: F') := fun k hk => by
  rcases List.mem_cons.1 hk with rfl | hk
  · exact .inl (by simp)
  · exact (h k hk).imp (fun h => by simp [h]) id
theorem only_cons {w w' : World} {t : Nat} {F : List Nat} (h : Only F w w') : Only (t :: F) w w' := h.mono fun x hx _ => by simp [hx]

theorem tab1_news : tab1.News := ⟨new_no, fun w cf h => (new_yes w cf h).mono (by
  rintro r w' ⟨t, e, F, h1, h2, h3, h4, h5⟩
  obtain ⟨_, _, d3, d4, _, _, d7, d8⟩ := h
  exact ⟨t, ⟨[], cf.b, cf.l⟩, t :: F, h1, h2, ⟨⟨e, F, h3, rfl⟩, d3, d4, (by show (0 : Int) ≤ cf.l; omega), d8⟩, fun k hk => by
    rcases List.mem_cons.1 hk with rfl | hk
    · exact h4
    · exact h5 k hk, rfl, rfl⟩)⟩

theorem chg_none {xs : List Ent} {a l n : Int} (h : isPfx a l = true) (h1 : 1 ≤ n) (h2 : n ≤ 255) : chgE xs a l n = 0 := by
  unfold chgE
  rw [if_neg (by simp [h]), if_neg (by omega), if_neg (by omega)]
theorem putE_len {xs : List Ent} {a l n v : Int} (hs : Sorted xs) (h : getE xs a l = some v) : (putE xs a l n).length = xs.length := by
  induction xs with
  | nil => cases h
  | cons x xs ih =>
    obtain ⟨hs1, hs2⟩ := sorted_tail hs
    rw [getE] at h
    rw [putE]
    split at h
    · rename_i he
      rw [if_neg (by unfold klt; omega), if_pos (by omega)]
      simp
    · rename_i he
      obtain ⟨y, h1, h3, h4, _⟩ := getE_mem h
      have := hs2 y h1
      rw [h3, h4] at this
      rw [if_pos this]
      simp [ih hs1 h]

end Go.Proofs.Ytfioeangigicfaa

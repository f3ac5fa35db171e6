import Derived.Test.YtglbamalagacgaaGreatH1
import Derived.Test.YtglbamalagacgaaGreatK1
namespace Go.Proofs.YtglbamalagacgaaGreat
open Go.RowKit Go.Shelf

attribute [local go_sem] Oper.semAt_some

-- what a Step tells
theorem cpRun_cnt (s : TS) : ∀ (l : List Ent) (n : Nat) (m : Mv), ((cpRun s l n m).1 = 1 ∨ (cpRun s l n m).1 = 4) ∧ (cpRun s l n m).2.ms = s.ms
  | [], n, m => ⟨.inl rfl, rfl⟩
  | x :: l, n, m => by
    rw [cpRun]
    split
    · exact cpRun_cnt s l n m
    split
    · exact ⟨.inl rfl, rfl⟩
    split
    · exact ⟨.inr rfl, rfl⟩
    · exact cpRun_cnt s l (n + 1) (m.lay x)
theorem catch_k (m : Mv) (xs : List Ent) : (m.catch xs).k = m.k := by unfold Mv.catch; split <;> rfl
theorem ctRun_cnt (s : TS) : ∀ (n : Nat) (m : Mv), ((ctRun s n m).1 = 3 ∧ (ctRun s n m).2.ms = wrap64 (s.ms + 1) ∧ (ctRun s n m).2.k = m.k) ∨ (((ctRun s n m).1 = 2 ∨ (ctRun s n m).1 = 4) ∧ (ctRun s n m).2.ms = s.ms)
  | 0, m => by
    rw [ctRun]
    split
    · exact .inl ⟨rfl, rfl, rfl⟩
    · exact .inr ⟨.inl rfl, rfl⟩
  | n + 1, m => by
    rw [ctRun]
    split
    · exact .inr ⟨.inr rfl, rfl⟩
    · have := ctRun_cnt s n (m.catch s.xs)
      rw [catch_k] at this
      exact this
theorem step_cnt (s : TS) (hs : s.Ok) : (knM s.mv = 0 ∧ s.step.1 = 0 ∧ s.step.2.ms = s.ms) ∨ (knM s.mv ≠ 0 ∧ s.step.1 = 3 ∧ s.step.2.ms = wrap64 (s.ms + 1) ∧ s.step.2.k = knM s.mv) ∨ (knM s.mv ≠ 0 ∧ (s.step.1 = 1 ∨ s.step.1 = 2 ∨ s.step.1 = 4) ∧ s.step.2.ms = s.ms) := by
  unfold TS.step
  cases hm : s.mv with
  | none => exact .inl ⟨rfl, rfl, rfl⟩
  | some m =>
    have hk := (hs.mv m hm).1.k1
    have hk0 : knM (some m) ≠ 0 := by show m.k ≠ 0; omega
    dsimp only
    split
    · obtain ⟨h1, h2⟩ := cpRun_cnt s (fromE s.xs m.ca m.cl) 0 m
      exact .inr (.inr ⟨hk0, by omega, h2⟩)
    · rcases ctRun_cnt s (min s.ch.toNat m.lg.length) m with ⟨h1, h2, h3⟩ | ⟨h1, h2⟩
      · exact .inr (.inl ⟨hk0, h1, h2, h3⟩)
      · exact .inr (.inr ⟨hk0, by omega, h2⟩)

set_option maxHeartbeats 1000000 in
theorem counted_law {w : World} {bk g t : Nat} {cf : Cfg} {rs : Nat → Int} {s : TS} {A : List Nat} (h : Law tab3 w bk g t cf rs s A) :
    Calls Tryz.prog 18 #[ptrV bk] w fun r w' => r = .returned (.bool true) ∧ Below w.heap.size w w' := by
  have x4 := h.book.x
  have l4 := h.book.lt.1
  obtain ⟨hok, e, pm, F, H, hT, rfl⟩ := h.tab
  have hst := hide (tstate_any w t e s pm F H hT)
  have hk1 := hok.k1
  have hk3 := hok.k3
  have hmv : (s.mv = none) ∨ (∃ m, s.mv = some m ∧ 1 ≤ m.k ∧ m.k ≤ 3 ∧ m.k ≠ s.k) := by
    cases hm : s.mv with
    | none => exact .inl rfl
    | some m => exact .inr ⟨m, rfl, (hok.mv m hm).1.k1, (hok.mv m hm).1.k3, (hok.mv m hm).1.kne⟩
  have hcl := hide (fun W (hW : Below w.heap.size w W) => tcells_any W t e s pm F H (hT.later hW))
  have hnd := hide (fun W (hW : Below w.heap.size w W) => need_any W bk g t cf rs s.xs s.k hk1 hk3 (h.book.kept (hW.block _ h.book.lt.1) (hW.block _ h.book.lt.2)) h.tie hok.sorted hok.ok)
  have hact : needK s.k s.xs = s.act := rfl
  rw [hact] at hnd
  have HB := hide (fun W (hW : Below w.heap.size w W) => (h.book.kept (hW.block _ h.book.lt.1) (hW.block _ h.book.lt.2)).x)
  clear h hT hok hact
  generalize s.act = act at *
  have y0 : decide (s.k < 1) = false := decide_eq_false (by omega)
  have y1 : decide (3 < s.k) = false := decide_eq_false (by omega)
  have y2 : ((0 : Int) == s.k) = false := by simp; omega
  rcases hmv with hm | ⟨m, hm, m1, m3, mne⟩
  · rw [hm] at hst hcl
    rw [show knM none = 0 from rfl, show phM none = 0 from rfl, show cpM none = 0 from rfl] at hst
    rw [show tgtM none = 0 from rfl, show lgdM none = 0 from rfl] at hcl
    clear hm
    generalize s.k = sk at *
    generalize s.ms = sms at *
    generalize s.bs = sbs at *
    generalize s.b = sb at *
    go_enter Tryz.func18, Tryz.ntmps18
    go_wp2_with fail
    refine hst.out.mono ?_
    rintro _ w2 ⟨rfl, hb2⟩
    have hB2 := hb2.alloc hb2.size (.cells #[.int .i64 sk, .int .i64 0, .int .i64 0, .int .i64 0, .int .i64 sms, .int .i64 sbs] 39)
    have x5 := HB.out _ hB2
    have hc2 := hide (hcl.out _ hB2)
    have HB2 := hide hB2
    have l2 : bk < w2.heap.size := by have := hb2.size; omega
    clear hst hb2 hB2 x4
    go_wp2_with fail
    refine hc2.out.mono ?_
    rintro _ w3 ⟨rfl, hb3⟩
    have hB3 := HB2.out.trans (hb3.mono HB2.out.size)
    have hB4 := hB3.alloc hB3.size (.cells #[.int .i64 act, .int .i64 0, .int .i64 0, .int .i64 sb] 49)
    have r0 : w3.cell? ⟨w2.heap.size, 0, none⟩ = some (.int .i64 sk) := (hb3.cell (p := ⟨w2.heap.size, 0, none⟩) (by simp)).trans (by simp)
    have r1 : w3.cell? ⟨w2.heap.size, 1, none⟩ = some (.int .i64 0) := (hb3.cell (p := ⟨w2.heap.size, 1, none⟩) (by simp)).trans (by simp)
    have r2 : w3.cell? ⟨w2.heap.size, 2, none⟩ = some (.int .i64 0) := (hb3.cell (p := ⟨w2.heap.size, 2, none⟩) (by simp)).trans (by simp)
    have r3 : w3.cell? ⟨w2.heap.size, 3, none⟩ = some (.int .i64 0) := (hb3.cell (p := ⟨w2.heap.size, 3, none⟩) (by simp)).trans (by simp)
    have l3 : w2.heap.size < w3.heap.size := by have := hb3.size; simp at this; omega
    have ln : ¬ w2.heap.size = w3.heap.size := by omega
    have hneed := hide (hnd.out _ hB4.drew)
    have HB4 := hide hB4
    clear hb3 hB3 hB4 hc2 hcl hnd
    go_wp2
    go_region_held3 (fun w' => w'.cell? ⟨w2.heap.size, 0, none⟩ = some (.int .i64 sk) ∧ w'.cell? ⟨w3.heap.size, 0, none⟩ = some (.int .i64 act)) (go_keep)
      (first | (go_at_call 48; refine hneed.out.mono ?_; rintro _ w5 ⟨rfl, hb5⟩; (have hc1 : ∀ o, w5.cell? ⟨w2.heap.size, o, none⟩ = _ := fun o => hb5.cell (p := ⟨w2.heap.size, o, none⟩) (by simp; omega)); (have hc2 : ∀ o, w5.cell? ⟨w3.heap.size, o, none⟩ = _ := fun o => hb5.cell (p := ⟨w3.heap.size, o, none⟩) (by simp))))
    have fin := hide (HB4.out.trans (((Below.refl _ _).drew.trans hb5).mono HB4.out.size))
    clear hb5 hc1 hc2
    go_wp2
    go_ret
    exact ⟨rfl, fin.out⟩
  · rw [hm] at hst hcl
    rw [show knM (some m) = m.k from rfl, show phM (some m) = m.ph from rfl, show cpM (some m) = m.cp from rfl] at hst
    clear hm
    have z0 : decide (m.k < 0) = false := decide_eq_false (by omega)
    have z1 : decide (3 < m.k) = false := decide_eq_false (by omega)
    have z2 : (m.k == s.k) = false := by simpa using mne
    have z3 : (m.k == 0) = false := by simp; omega
    generalize tgtM (some m) = q1 at *
    generalize lgdM (some m) = q2 at *
    generalize m.k = mk at *
    generalize m.ph = mph at *
    generalize m.cp = mcp at *
    generalize s.k = sk at *
    generalize s.ms = sms at *
    generalize s.bs = sbs at *
    generalize s.b = sb at *
    go_enter Tryz.func18, Tryz.ntmps18
    go_wp2_with fail
    refine hst.out.mono ?_
    rintro _ w2 ⟨rfl, hb2⟩
    have hB2 := hb2.alloc hb2.size (.cells #[.int .i64 sk, .int .i64 mk, .int .i64 mph, .int .i64 mcp, .int .i64 sms, .int .i64 sbs] 39)
    have x5 := HB.out _ hB2
    have hc2 := hide (hcl.out _ hB2)
    have HB2 := hide hB2
    have l2 : bk < w2.heap.size := by have := hb2.size; omega
    clear hst hb2 hB2 x4
    go_wp2_with fail
    refine hc2.out.mono ?_
    rintro _ w3 ⟨rfl, hb3⟩
    have hB3 := HB2.out.trans (hb3.mono HB2.out.size)
    have hB4 := hB3.alloc hB3.size (.cells #[.int .i64 act, .int .i64 q1, .int .i64 q2, .int .i64 sb] 49)
    have r0 : w3.cell? ⟨w2.heap.size, 0, none⟩ = some (.int .i64 sk) := (hb3.cell (p := ⟨w2.heap.size, 0, none⟩) (by simp)).trans (by simp)
    have r1 : w3.cell? ⟨w2.heap.size, 1, none⟩ = some (.int .i64 mk) := (hb3.cell (p := ⟨w2.heap.size, 1, none⟩) (by simp)).trans (by simp)
    have r2 : w3.cell? ⟨w2.heap.size, 2, none⟩ = some (.int .i64 mph) := (hb3.cell (p := ⟨w2.heap.size, 2, none⟩) (by simp)).trans (by simp)
    have r3 : w3.cell? ⟨w2.heap.size, 3, none⟩ = some (.int .i64 mcp) := (hb3.cell (p := ⟨w2.heap.size, 3, none⟩) (by simp)).trans (by simp)
    have l3 : w2.heap.size < w3.heap.size := by have := hb3.size; simp at this; omega
    have ln : ¬ w2.heap.size = w3.heap.size := by omega
    have hneed := hide (hnd.out _ hB4.drew)
    have HB4 := hide hB4
    clear hb3 hB3 hB4 hc2 hcl hnd
    go_wp2
    go_region_held3 (fun w' => w'.cell? ⟨w2.heap.size, 0, none⟩ = some (.int .i64 sk) ∧ w'.cell? ⟨w3.heap.size, 0, none⟩ = some (.int .i64 act)) (go_keep)
      (first | (go_at_call 48; refine hneed.out.mono ?_; rintro _ w5 ⟨rfl, hb5⟩; (have hc1 : ∀ o, w5.cell? ⟨w2.heap.size, o, none⟩ = _ := fun o => hb5.cell (p := ⟨w2.heap.size, o, none⟩) (by simp; omega)); (have hc2 : ∀ o, w5.cell? ⟨w3.heap.size, o, none⟩ = _ := fun o => hb5.cell (p := ⟨w3.heap.size, o, none⟩) (by simp))))
    have fin := hide (HB4.out.trans (((Below.refl _ _).drew.trans hb5).mono HB4.out.size))
    clear hb5 hc1 hc2
    go_wp2
    go_ret
    exact ⟨rfl, fin.out⟩

end Go.Proofs.YtglbamalagacgaaGreat

import Derived.Test.YtglbamalagacgaaGreatN1
namespace Go.Proofs.YtglbamalagacgaaGreat
open Go.RowKit Go.Shelf

attribute [local go_sem] Oper.semAt_some

set_option maxHeartbeats 4000000 in
set_option maxRecDepth 4000 in
theorem alike_any (w : World) (t1 t2 : Nat) (s d : TS) (A1 A2 : List Nat) (hP : Pair w t1 t2 s d A1 A2) (hS : Same s d) (k a l n : Int) (v : Value) (cs : List Chg) (hv : ChgsAt w v cs) (hv1 : Apart v A1) (hv2 : Apart v A2) (hk : k = 1 ∨ k = 2 ∨ k = 3 ∨ k = 9 ∨ k = 10) (hf : k = 1 ∨ k = 3 → s.xs.length ≤ 20) :
    Calls Tryz.prog 27 #[ptrV t1, ptrV t2, stepV k a l n v] w (AlkP w t1 t2 A1 A2) := by
  have hs := hP.T1.ok
  have hd := hP.T2.ok
  have L1 := hP.T1.lt
  have L2 := hP.T2.lt
  obtain ⟨W0, hW0⟩ : ∃ W0, W0 = (w.alloc (.cells #[.int .i64 k, .int .i64 a, .int .i64 l, .int .i64 n, v] 35)).alloc (.cells #[.int .i64 a, .int .i64 l] 65) := ⟨_, rfl⟩
  have hB0 : Below w.heap.size w W0 := by rw [hW0]; exact (by repeat (first | exact Below.refl _ _ | refine below_drewN ?_ _ | refine Below.drew ?_ | refine Below.trans ?_ (Below.mono (by assumption) (by first | omega | (simp; omega) | simp)) | refine Below.alloc ?_ (by first | omega | (simp; omega) | simp) _ | refine Below.setCell ?_ (by first | omega | (simp; omega) | simp) _))
  have q0 : W0.heap[w.heap.size]? = some (.cells #[.int .i64 k, .int .i64 a, .int .i64 l, .int .i64 n, v] 35) := by
    rw [hW0]
    exact (((Below.refl _ (w.alloc (.cells #[.int .i64 k, .int .i64 a, .int .i64 l, .int .i64 n, v] 35))).alloc (Nat.le_refl _) _).block _ (by simp)).trans (World.alloc_heap_new w _)
  have q1 : W0.heap[w.heap.size + 1]? = some (.cells #[.int .i64 a, .int .i64 l] 65) := by
    rw [hW0]
    have := World.alloc_heap_new (w.alloc (.cells #[.int .i64 k, .int .i64 a, .int .i64 l, .int .i64 n, v] 35)) (.cells #[.int .i64 a, .int .i64 l] 65)
    rwa [World.size_alloc] at this
  have hz0 : W0.heap.size = w.heap.size + 2 := by rw [hW0]; simp
  have hP0 := hP.later hB0
  have HK := hide (show ∀ (A : List Nat), (∀ k ∈ A, k < w.heap.size) → ∀ W, Only A W0 W → W.heap[w.heap.size]? = some (.cells #[.int .i64 k, .int .i64 a, .int .i64 l, .int .i64 n, v] 35) ∧ W.heap[w.heap.size + 1]? = some (.cells #[.int .i64 a, .int .i64 l] 65) ∧ W0.heap.size ≤ W.heap.size from fun A hA W hO =>
    ⟨(hO.block _ (by omega) fun h => by have := hA _ h; omega).trans q0, (hO.block _ (by omega) fun h => by have := hA _ h; omega).trans q1, hO.size⟩)
  obtain ⟨va, vc, hve, hvl, _⟩ := id hv
  have HB0 := hide hB0
  have HP0 := hide hP0
  have HP := hide hP
  have HS := hide hS
  have Hv := hide (hv.later hB0)
  have HV := hide (And.intro hv1 hv2)
  have HL := hide (And.intro L1 L2)
  have Hs := hide (And.intro hs hd)
  have Hz := hide hz0
  clear hP hS hv hv1 hv2 hP0 hB0 q0 q1 L1 L2 hs hd hz0
  rcases hk with rfl | rfl | rfl | rfl | rfl
  · obtain ⟨e1, e2, e3⟩ := add_few HS.out Hs.out.1 Hs.out.2 (hf (.inl rfl)) a l n
    have hc1 := hide (HP0.out.T1.add a l n)
    have E3 := hide e3
    have E1 := hide e1
    subst hve
    clear hf e3 e1
    subst hW0
    go_enter Tryz.func27, Tryz.ntmps27
    go_wp2_with fail
    refine hc1.out.mono ?_
    rintro _ w1 hp1
    obtain ⟨rfl, A1', hPa, hn1, ho1⟩ := HP0.out.fst hp1
    obtain ⟨b0, b1, bz⟩ := HK.out A1 HL.out.1 w1 ho1
    have c3 : w1.cell? ⟨w.heap.size, 3, none⟩ = some (.int .i64 n) := by simp [World.cell?, b0]
    have p0 : w1.cell? ⟨w.heap.size + 1, 0, none⟩ = some (.int .i64 a) := by simp [World.cell?, b1]
    have p1 : w1.cell? ⟨w.heap.size + 1, 1, none⟩ = some (.int .i64 l) := by simp [World.cell?, b1]
    have z1 : w.heap.size + 1 < w1.heap.size := by have := Hz.out; omega
    have hc2 := hide (hPa.T2.add a l n)
    rw [← E1.out] at hc2
    have HPa := hide hPa
    have HN1 := hide (And.intro hn1 ho1)
    clear hc1 hp1 hPa hn1 ho1 b0 b1
    go_wp2_with fail
    refine hc2.out.mono ?_
    rintro _ w2 hp2
    obtain ⟨rfl, A2', hPb, hn2, ho2⟩ := HPa.out.snd hp2
    have fin := hide (AlkP.mk2 HB0.out hPb E3.out HN1.out.1 HN1.out.2 hn2 ho2)
    have d6 : ((s.add a l n).1 != 6) = true := by simpa using e2
    clear hp2 hPb hn2 ho2 hc2 e2 E1
    generalize (s.add a l n).1 = e at *
    go_wp2
    go_ret
    exact fin.out
  · obtain ⟨e1, e2, e3⟩ := del_alike HS.out Hs.out.1 Hs.out.2 a l
    have hc1 := hide (HP0.out.T1.del a l)
    have E3 := hide e3
    have E1 := hide e1
    subst hve
    clear hf e3 e1
    subst hW0
    go_enter Tryz.func27, Tryz.ntmps27
    go_wp2_with fail
    refine hc1.out.mono ?_
    rintro _ w1 hp1
    obtain ⟨rfl, A1', hPa, hn1, ho1⟩ := HP0.out.fst hp1
    obtain ⟨b0, b1, bz⟩ := HK.out A1 HL.out.1 w1 ho1
    have p0 : w1.cell? ⟨w.heap.size + 1, 0, none⟩ = some (.int .i64 a) := by simp [World.cell?, b1]
    have p1 : w1.cell? ⟨w.heap.size + 1, 1, none⟩ = some (.int .i64 l) := by simp [World.cell?, b1]
    have z1 : w.heap.size + 1 < w1.heap.size := by have := Hz.out; omega
    have hc2 := hide (hPa.T2.del a l)
    rw [← E1.out] at hc2
    have HPa := hide hPa
    have HN1 := hide (And.intro hn1 ho1)
    clear hc1 hp1 hPa hn1 ho1 b0 b1
    go_wp2_with fail
    refine hc2.out.mono ?_
    rintro _ w2 hp2
    obtain ⟨rfl, A2', hPb, hn2, ho2⟩ := HPa.out.snd hp2
    have fin := hide (AlkP.mk2 HB0.out hPb E3.out HN1.out.1 HN1.out.2 hn2 ho2)
    have d6 : ((s.one a l 0).1 != 6) = true := by simpa using e2
    clear hp2 hPb hn2 ho2 hc2 e2 E1
    generalize (s.one a l 0).1 = e at *
    go_wp2
    go_ret
    exact fin.out
  · obtain ⟨e0, e1, e2, e3⟩ := apply_few HS.out Hs.out.1 Hs.out.2 (hf (.inr rfl)) cs
    have hc1 := hide (HP0.out.T1.apply v cs Hv.out HV.out.1)
    have E3 := hide e3
    have E1 := hide e1
    have E0 := hide e0
    subst hve
    clear hf e3 e1 e0
    subst hW0
    go_enter Tryz.func27, Tryz.ntmps27
    go_wp2_with fail
    refine hc1.out.mono ?_
    rintro _ w1 hp1
    obtain ⟨rfl, A1', hPa, hn1, ho1⟩ := HP0.out.fst hp1
    obtain ⟨b0, b1, bz⟩ := HK.out A1 HL.out.1 w1 ho1
    have c4 : w1.cell? ⟨w.heap.size, 4, none⟩ = some (.slice va cs.length vc) := by simp [World.cell?, b0]
    have z1 : w.heap.size + 1 < w1.heap.size := by have := Hz.out; omega
    have hv1 : ChgsAt w1 (.slice va cs.length vc) cs := Hv.out.only ho1 HV.out.1 fun k hk => hk
    have hc2 := hide (hPa.T2.apply (.slice va cs.length vc) cs hv1 HV.out.2)
    rw [← E1.out, ← E0.out] at hc2
    have HPa := hide hPa
    have HN1 := hide (And.intro hn1 ho1)
    clear hc1 hp1 hPa hn1 ho1 b0 b1
    go_wp2_with fail
    refine hc2.out.mono ?_
    rintro _ w2 hp2
    obtain ⟨rfl, A2', hPb, hn2, ho2⟩ := HPa.out.snd hp2
    have fin := hide (AlkP.mk2 HB0.out hPb E3.out HN1.out.1 HN1.out.2 hn2 ho2)
    have d6 : ((s.apply cs).2.1 != 6) = true := by simpa using e2
    clear hp2 hPb hn2 ho2 hc2 E0 E1 e2
    generalize (s.apply cs).2.1 = e at *
    generalize (s.apply cs).1 = m at *
    go_wp2
    go_ret
    exact fin.out
  · have hc1 := hide (HP0.out.T1.look a)
    have Hlk := hide (fun W (hW : Below w.heap.size w W) => (HP.out.later hW).T2.look a)
    have Hg1 := hide (fun W (hW : Below w.heap.size w W) => (HP.out.later hW).T1.get a l)
    have Hg2 := hide (fun W (hW : Below w.heap.size w W) => (HP.out.later hW).T2.get a l)
    rw [← HS.out.xs] at Hlk Hg2
    have hg6 : ((getR s.xs a l).2 != 6) = true := by simpa using get_no6 s.xs a l
    have fin := hide (fun W (hW : Below w.heap.size w W) => AlkP.look HP.out HS.out hW)
    generalize lookR s.xs a = R at *
    generalize getR s.xs a l = G at *
    obtain ⟨⟨ra, rl, rn⟩, re⟩ := R
    obtain ⟨gv, ge⟩ := G
    dsimp only at hc1 Hlk Hg1 Hg2 hg6
    have HC := hide (show ∀ W, Below W0.heap.size W0 W → W.cell? ⟨w.heap.size, 1, none⟩ = some (.int .i64 a) ∧ W.cell? ⟨w.heap.size + 1, 0, none⟩ = some (.int .i64 a) ∧ W.cell? ⟨w.heap.size + 1, 1, none⟩ = some (.int .i64 l) ∧ w.heap.size < W.heap.size ∧ w.heap.size + 1 < W.heap.size from fun W hW => by
      obtain ⟨b0, b1, b2⟩ := HK.out [] (by simp) W (Only.of_below _ hW)
      have := Hz.out
      exact ⟨by simp [World.cell?, b0], by simp [World.cell?, b1], by simp [World.cell?, b1], by omega, by omega⟩)
    have HBz := hide (show ∀ W, Below W0.heap.size W0 W → Below w.heap.size w W from fun W hW => HB0.out.trans (hW.mono HB0.out.size))
    subst hve
    clear hf HP0 HK HP HS Hs Hv HV HL
    rw [hW0] at hc1
    have HW0 := hide hW0
    clear hW0
    go_enter Tryz.func27, Tryz.ntmps27
    go_wp2_with fail
    refine hc1.out.mono ?_
    rintro _ w1 ⟨rfl, hb1⟩
    rw [← HW0.out] at hb1
    have hB1 := hb1.alloc hb1.size (.cells #[.int .i64 ra, .int .i64 rl, .int .i64 rn] 90)
    have o1 := World.alloc_heap_new w1 (.cells #[.int .i64 ra, .int .i64 rl, .int .i64 rn] 90)
    obtain ⟨c1, p0, p1, z0, z00⟩ := HC.out _ hb1
    have hl2 := hide (Hlk.out _ (HBz.out _ hB1))
    have HB1 := hide hB1
    have O1 := hide o1
    clear hc1 hb1 hB1 Hlk o1
    go_wp2_with fail
    refine hl2.out.mono ?_
    rintro _ w2 ⟨rfl, hb2⟩
    have hB2 := HB1.out.trans (hb2.mono HB1.out.size)
    have hB2a := hB2.alloc hB2.size (.cells #[.int .i64 ra, .int .i64 rl, .int .i64 rn] 90)
    have O2 := hide ((hb2.block w1.heap.size (by simp)).trans O1.out)
    have z1 : w1.heap.size < w2.heap.size := by have := hb2.size; simp at this; omega
    clear c1 p0 p1 z0 z00
    obtain ⟨c1, p0, p1, z0, z00⟩ := HC.out _ hB2
    have hg1 := hide (Hg1.out _ (HBz.out _ hB2a))
    have O3 := hide (World.alloc_heap_new w2 (.cells #[.int .i64 ra, .int .i64 rl, .int .i64 rn] 90))
    have O2a := hide ((((Below.refl _ w2).alloc (Nat.le_refl _) (.cells #[.int .i64 ra, .int .i64 rl, .int .i64 rn] 90)).block w1.heap.size z1).trans O2.out)
    have HB2 := hide hB2a
    clear hl2 hb2 hB2 hB2a Hg1 O1 O2
    go_wp2_with fail
    refine hg1.out.mono ?_
    rintro _ w3 ⟨rfl, hb3⟩
    have hB3 := HB2.out.trans (hb3.mono HB2.out.size)
    have O4 := hide ((hb3.block w1.heap.size (by simp; omega)).trans O2a.out)
    have O5 := hide ((hb3.block w2.heap.size (by simp)).trans O3.out)
    have z2 : w2.heap.size < w3.heap.size := by have := hb3.size; simp at this; omega
    clear c1 p0 p1 z0 z00
    obtain ⟨c1, p0, p1, z0, z00⟩ := HC.out _ hB3
    have hg2 := hide (Hg2.out _ (HBz.out _ hB3))
    have HB3 := hide hB3
    clear hg1 hb3 hB3 Hg2 O3 O2a
    go_wp2_with fail
    refine hg2.out.mono ?_
    rintro _ w4 ⟨rfl, hb4⟩
    have hB4 := HB3.out.trans (hb4.mono HB3.out.size)
    have O6 := (hb4.block w1.heap.size (by omega)).trans O4.out
    have O7 := (hb4.block w2.heap.size (by omega)).trans O5.out
    have u0 : w4.cell? ⟨w1.heap.size, 0, none⟩ = some (.int .i64 ra) := by simp [World.cell?, O6]
    have u1 : w4.cell? ⟨w1.heap.size, 1, none⟩ = some (.int .i64 rl) := by simp [World.cell?, O6]
    have u2 : w4.cell? ⟨w1.heap.size, 2, none⟩ = some (.int .i64 rn) := by simp [World.cell?, O6]
    have v0 : w4.cell? ⟨w2.heap.size, 0, none⟩ = some (.int .i64 ra) := by simp [World.cell?, O7]
    have v1 : w4.cell? ⟨w2.heap.size, 1, none⟩ = some (.int .i64 rl) := by simp [World.cell?, O7]
    have v2 : w4.cell? ⟨w2.heap.size, 2, none⟩ = some (.int .i64 rn) := by simp [World.cell?, O7]
    have z3 : w3.heap.size ≤ w4.heap.size := hb4.size
    have fin2 := hide (fin.out _ (HBz.out _ hB4))
    clear hg2 hb4 hB4 O6 O7 O4 O5 c1 p0 p1
    go_wp2
    go_ret
    exact fin2.out
  · have hc1 := hide (HP0.out.T1.page a l n)
    have Hpg := hide (fun W (hW : Below w.heap.size w W) => (HP.out.later hW).T2.page a l n)
    have Ha1 := hide (fun W (hW : Below w.heap.size w W) => (HP.out.later hW).T1.advise)
    have Ha2 := hide (fun W (hW : Below w.heap.size w W) => (HP.out.later hW).T2.advise)
    rw [← HS.out.xs] at Hpg Ha2
    have fin := hide (fun W (hW : Below w.heap.size w W) => AlkP.look HP.out HS.out hW)
    have hyl : (pagL s.xs a l n).length ≤ 1000000 := by
      unfold pagL
      split
      · rename_i h0
        rw [List.length_take]
        unfold pagE at h0
        split at h0
        · cases h0
        split at h0
        · cases h0
        · omega
      · simp
    generalize pagL s.xs a l n = ys at *
    generalize advR s.xs = ad at *
    generalize pagE a l n = pe at *
    have HC := hide (show ∀ W, Below W0.heap.size W0 W → W.cell? ⟨w.heap.size, 3, none⟩ = some (.int .i64 n) ∧ W.cell? ⟨w.heap.size + 1, 0, none⟩ = some (.int .i64 a) ∧ W.cell? ⟨w.heap.size + 1, 1, none⟩ = some (.int .i64 l) ∧ w.heap.size < W.heap.size ∧ w.heap.size + 1 < W.heap.size from fun W hW => by
      obtain ⟨b0, b1, b2⟩ := HK.out [] (by simp) W (Only.of_below _ hW)
      have := Hz.out
      exact ⟨by simp [World.cell?, b0], by simp [World.cell?, b1], by simp [World.cell?, b1], by omega, by omega⟩)
    have HBz := hide (show ∀ W, Below W0.heap.size W0 W → Below w.heap.size w W from fun W hW => HB0.out.trans (hW.mono HB0.out.size))
    subst hve
    clear hf HP0 HK HP HS Hs Hv HV HL
    rw [hW0] at hc1
    have HW0 := hide hW0
    clear hW0
    go_enter Tryz.func27, Tryz.ntmps27
    go_wp2_with fail
    refine hc1.out.mono ?_
    rintro _ w1 ⟨v1, rfl, hr1, hb1, hf1⟩
    rw [← HW0.out] at hb1
    obtain ⟨c3, p0, p1, z0, z00⟩ := HC.out _ hb1
    have hp2 := hide (Hpg.out _ (HBz.out _ hb1))
    obtain ⟨ua, uc, rfl⟩ := hr1.shape
    have HR1 := hide hr1
    have HB1 := hide hb1
    clear hc1 hb1 Hpg hr1 hf1
    go_wp2_with fail
    refine hp2.out.mono ?_
    rintro _ w2 ⟨v2, rfl, hr2, hb2, -⟩
    have hB2 := HB1.out.trans (hb2.mono HB1.out.size)
    have hr1 := HR1.out.kept (w' := w2) fun g hg => hb2.block g (HR1.out.lt g hg)
    have hsm := hide (sameRoutes_any w2 _ _ ys hr1 hr2 hyl)
    obtain ⟨ub, ud, rfl⟩ := hr2.shape
    have HB2 := hide hB2
    clear hp2 hb2 hB2 hr1 hr2 HR1 HB1 c3 p0 p1 z0 z00
    go_wp2_with fail
    refine hsm.out.mono ?_
    rintro _ w3 ⟨rfl, hb3⟩
    have hB3 := HB2.out.trans (hb3.mono HB2.out.size)
    have ha1 := hide (Ha1.out _ (HBz.out _ hB3))
    have HB3 := hide hB3
    clear hsm hb3 hB3 Ha1
    go_wp2_with fail
    refine ha1.out.mono ?_
    rintro _ w4 ⟨rfl, hb4⟩
    have hB4 := HB3.out.trans (hb4.mono HB3.out.size)
    have ha2 := hide (Ha2.out _ (HBz.out _ hB4))
    have HB4 := hide hB4
    clear ha1 hb4 hB4 Ha2
    go_wp2_with fail
    refine ha2.out.mono ?_
    rintro _ w5 ⟨rfl, hb5⟩
    have fin2 := hide (fin.out _ (HBz.out _ (HB4.out.trans (hb5.mono HB4.out.size))))
    clear ha2 hb5
    go_wp2
    go_ret
    exact fin2.out

end Go.Proofs.YtglbamalagacgaaGreat

import Derived.Test.YtglbamalagacgaaGreatH1
namespace Go.Proofs.YtglbamalagacgaaGreat
open Go.RowKit Go.Shelf

attribute [local go_sem] Oper.semAt_some

set_option maxHeartbeats 4000000 in
set_option maxRecDepth 4000 in
theorem whole_any (cf : Cfg) (v v2 : Value) (ss : List Stp) (cs : List Chg) (w : World) (hs : StepsAt w v ss) (hc2 : ChgsAt w v2 cs) :
    Calls Tryz.prog 8 #[cfgV cf, v, v2] w fun r w' => r = .returned (.bool true) ∧ Below w.heap.size w w' := by
  have hB1 : Below w.heap.size w (w.alloc (.cells #[.int .i64 cf.e, .int .i64 cf.b, .int .i64 cf.c, .int .i64 cf.l] 23)) := (Below.refl _ w).alloc (Nat.le_refl _) _
  have HB1 := hide hB1
  by_cases hcf : isCfg cf
  · have hcall := hide (opened_yes tab3 tab3_news cf (w.alloc (.cells #[.int .i64 cf.e, .int .i64 cf.b, .int .i64 cf.c, .int .i64 cf.l] 23)) hcf)
    have Hs := hide (hs.later hB1)
    have Hc2 := hide (hc2.later hB1)
    obtain ⟨va, vc, rfl, hml, _⟩ := hs
    obtain ⟨va2, vc2, rfl, hml2, _⟩ := hc2
    obtain ⟨e, b, ch, lg⟩ := cf
    unfold maxLen at hml hml2
    clear hB1
    go_enter Tryz.func8, Tryz.ntmps8
    go_wp2_with fail
    refine hcall.out.mono ?_
    rintro _ w2 ⟨bk, g, t, s, F, rfl, hL, hb2, h1, h2, h3, -⟩
    have hM : Mid tab3 (w.alloc (.cells #[.int .i64 e, .int .i64 b, .int .i64 ch, .int .i64 lg] 23)) w2 bk g t ⟨e, b, ch, lg⟩ (fun _ => 0) s F := ⟨hL, hb2, h1, h2, h3⟩
    have HM := hide hM
    clear hM hL hb2 h1 h2 h3 hcall
    go_wp2
    go_loopw [9] (fun sl wr => ∃ (i : Nat) (g : Nat) (rs : Nat → Int) (s : TS) (F : List Nat), i ≤ ss.length ∧ sl = .int .i64 (i : Int) ∧ Hid (Mid tab3 (w.alloc (.cells #[.int .i64 e, .int .i64 b, .int .i64 ch, .int .i64 lg] 23)) wr bk g t ⟨e, b, ch, lg⟩ rs s F)) (fun s _ => ss.length - (intOf s).toNat)
    case atStart => exact ⟨0, g, _, s, F, Nat.zero_le _, rfl, HM⟩
    case round =>
      obtain ⟨i, g, rs, s, F, hi, rfl, HM⟩ := hrel
      by_cases hlt : i < ss.length
      · obtain ⟨x, hx⟩ : ∃ x, ss[i]? = some x := ⟨_, List.getElem?_eq_getElem hlt⟩
        obtain ⟨va', vc', hve, _, hst⟩ := Hs.out
        obtain ⟨A, hA0, hA, hcs, a0, a1, a2, a3, a4⟩ := hst i x hx
        cases hve
        subst hA0
        have hk : ∀ j, (⟨(A.add (i * 5)).block, (A.add (i * 5)).off + j, none⟩ : Addr).block < (w.alloc (.cells #[.int .i64 e, .int .i64 b, .int .i64 ch, .int .i64 lg] 23)).heap.size := fun j => by simpa [addB] using hA
        obtain ⟨xk, xa, xl, xn, xv, xcs⟩ := x
        simp only at hcs a0 a1 a2 a3 a4
        have j0 : (0 : Int) ≤ (i : Int) := by omega
        have j1 : (i : Int) < (ss.length : Int) := by omega
        have hwr : IntKind.i64.wrap ((i : Int) + 1) = (i : Int) + 1 := by rw [IntKind.wrap_i64]; omega
        have M3 := HM.out
        replace a0 := (M3.below.cell (p := A.add (i * 5)) (by simpa [addB] using hA)).trans a0
        replace a1 := (M3.below.cell (p := ⟨(A.add (i * 5)).block, (A.add (i * 5)).off + 1, none⟩) (hk 1)).trans a1
        replace a2 := (M3.below.cell (p := ⟨(A.add (i * 5)).block, (A.add (i * 5)).off + 2, none⟩) (hk 2)).trans a2
        replace a3 := (M3.below.cell (p := ⟨(A.add (i * 5)).block, (A.add (i * 5)).off + 3, none⟩) (hk 3)).trans a3
        replace a4 := (M3.below.cell (p := ⟨(A.add (i * 5)).block, (A.add (i * 5)).off + 4, none⟩) (hk 4)).trans a4
        have hstp := hide (step_any tab3 tab3_works tab3_apps tab3_goes wr bk g t _ rs s F M3.law xk xa xl xn xv xcs (StepsAt.step (x := ⟨xk, xa, xl, xn, xv, xcs⟩) hcs M3).1 (StepsAt.step (x := ⟨xk, xa, xl, xn, xv, xcs⟩) hcs M3).2)
        obtain ⟨ya, yc, rfl⟩ : ∃ ya yc, xv = .slice ya xcs.length yc := by obtain ⟨p, q, h, _⟩ := hcs; exact ⟨p, q, h⟩
        clear hst hx hcs M3
        go_wp2_with fail
        refine hstp.out.mono ?_
        rintro _ w4 hpost
        obtain ⟨rfl, g', rs', s', F', M4, -⟩ := HM.out.next hpost
        have next := hide (show ∃ (i' g : Nat) (rs : Nat → Int) (s : TS) (F : List Nat), i' ≤ ss.length ∧ Value.int .i64 ((i : Int) + 1) = .int .i64 (i' : Int) ∧ Hid (Mid tab3 (w.alloc (.cells #[.int .i64 e, .int .i64 b, .int .i64 ch, .int .i64 lg] 23)) w4 bk g t ⟨e, b, ch, lg⟩ rs s F) from ⟨i + 1, g', rs', s', F', by omega, by simp, M4⟩)
        clear hpost a0 a1 a2 a3 a4 hstp M4
        go_wp2
        exact ⟨next.out, by show ss.length - ((i : Int) + 1).toNat < ss.length - (i : Int).toNat; omega⟩
      · obtain rfl : i = ss.length := by omega
        have B3 := hide HM.out.toBk
        have HT := hide HM.out.law.tie
        have x4 := B3.out.book.x
        have l4 := B3.out.book.lt.1
        have hst := hide B3.out.state
        obtain ⟨⟨rs2, i0, e0⟩, hp⟩ : ∃ p, tryC cs rs 0 = p := ⟨_, rfl⟩
        obtain ⟨t1, t2, t3⟩ := try_tie cs rs s.xs 0 HM.out.law.tie (tab3.sorted HM.out.law.tab) (tab3.ok HM.out.law.tab)
        rw [hp] at t1 t2
        have Ht1 := hide t1
        have Ht2 := hide t2
        have Ht3 := hide t3
        have Hp := hide hp
        clear t1 t2 t3 hp HM
        go_wp2_with fail
        refine hst.out.mono ?_
        rintro _ w3 ⟨rfl, hb3⟩
        have hB3 : Below wr.heap.size wr (w3.alloc (.cells #[.int .i64 s.k, .int .i64 (knM s.mv), .int .i64 (phM s.mv), .int .i64 (cpM s.mv), .int .i64 s.ms, .int .i64 s.bs] 39)) := hb3.alloc hb3.size _
        have o1 := World.alloc_heap_new w3 (.cells #[.int .i64 s.k, .int .i64 (knM s.mv), .int .i64 (phM s.mv), .int .i64 (cpM s.mv), .int .i64 s.ms, .int .i64 s.bs] 39)
        have ho1 : ∀ k ∈ F, k < w3.heap.size := fun k hk => by have := tab3.lt B3.out.tab k hk; have := hb3.size; omega
        have HBK := hide (show bk < w3.heap.size by have := B3.out.book.lt.1; have := hb3.size; omega)
        have B4 := hide (B3.out.later hB3)
        have hus := hide B4.out.uses
        have O1 := hide o1
        have HO1 := hide ho1
        clear hst hb3 hB3 x4 l4 o1 ho1 B3
        go_wp2_with fail
        refine hus.out.mono ?_
        rintro _ w4 ⟨rfl, hb4⟩
        have B5 := hide (B4.out.later hb4)
        have O2 := hide ((hb4.block w3.heap.size (by simp)).trans O1.out)
        have hl4 : w3.heap.size < w4.heap.size := by have := hb4.size; simp at this; omega
        have HLB := hide (show bk < w4.heap.size from B5.out.book.lt.1)
        have HW1 := hide B5.out.below.size
        have htr := hide (tried_any w4 bk g t _ rs B5.out.book _ cs (Hc2.out.later B5.out.below))
        clear hus hb4 B4 O1
        go_wp2_with fail
        refine htr.out.mono ?_
        rintro _ w5 ⟨hb5, m, rfl, hm5⟩
        rw [Hp.out] at hm5 ⊢
        simp only at hm5 ⊢
        have B6 := hide (B5.out.later hb5)
        have O3 := hide ((hb5.block w3.heap.size hl4).trans O2.out)
        have hl5 : w4.heap.size ≤ w5.heap.size := hb5.size
        have Hm5 := hide hm5
        have happ := hide (apply_w (cs := cs) B6.out.tab (Hc2.out.later B6.out.below) (Hc2.out.apart B6.out.b3))
        have x4 := B6.out.book.x
        have l4 := B6.out.book.lt.1
        clear htr hb5 B5 O2 hm5
        go_wp2_with fail
        refine happ.out.mono ?_
        rintro _ w6 ⟨n3, e3, s', A', rfl, hW, hk', hm', hT, hN, hO, hlg⟩
        have B7 := hide (B6.out.turn hT hN hO hlg)
        have O4 := hide ((hO.block w3.heap.size (by omega) (fun hf => by have := HO1.out _ hf; omega)).trans O3.out)
        have hl6 : w5.heap.size ≤ w6.heap.size := hO.size
        have HR := hide (show e0 = 0 → RowR w6 w4.heap.size rs2 ∧ w4.heap.size ∉ A' from fun he => by
          obtain ⟨_, hrow⟩ := Hm5.out he
          have ng : w4.heap.size ∉ F := fun hf => by have := HO1.out _ hf; omega
          exact ⟨hrow.kept (hO.block _ hrow.lt ng), fun hf => (hN _ hf).elim ng fun h1 => by have := hrow.lt; omega⟩)
        have hst := hide B7.out.state
        rw [hk', hm'] at hst
        have x6 := B7.out.book.x
        have l6 := B7.out.book.lt.1
        clear happ x4 l4 hT hN hO hlg O3 B6
        have e1 : (tryX cs s.xs 0).2.1 = i0 := by rw [← Ht1.out]
        have e2 : (tryX cs s.xs 0).2.2 = e0 := by rw [← Ht1.out]
        unfold appW at hW
        rw [e1, e2] at hW
        have hn1 : ¬ w3.heap.size = w6.heap.size := by omega
        rcases hW with ⟨h16, rfl, rfl, rfl⟩ | ⟨h16, hne, rfl, rfl, rfl⟩ | ⟨h16, rfl, rfl, rfl, rfl⟩ | ⟨h16, rfl, hxs, rfl, rfl⟩
        case' inl => have h16' : (16 : Int) < (cs.length : Int) := by omega
        case' inr.inl => have h16' : ¬ (16 : Int) < (cs.length : Int) := by omega
        case' inr.inl => have hne' : (e3 == 0) = false := by simpa using hne
        case' inr.inr.inl => have h16' : ¬ (16 : Int) < (cs.length : Int) := by omega
        case' inr.inr.inl => obtain rfl : i0 = cs.length := by rw [← e1, Ht3.out e2]; omega
        case' inr.inr.inr => have h16' : ¬ (16 : Int) < (cs.length : Int) := by omega
        case' inr.inr.inr => obtain rfl : i0 = cs.length := by rw [← e1, Ht3.out e2]; omega
        all_goals
          clear e1 e2 hk' hm'
          go_wp2_with fail
          refine hst.out.mono ?_
          rintro _ w7 ⟨rfl, hb7⟩
          have hl7 : w6.heap.size ≤ w7.heap.size := hb7.size
        · have hB7 := hb7.alloc hb7.size (.cells #[.int .i64 s.k, .int .i64 (knM s'.mv), .int .i64 (phM s'.mv), .int .i64 (cpM s'.mv), .int .i64 s.ms, .int .i64 s'.bs] 39)
          have B8 := hide (B7.out.later hB7)
          have hus := hide B8.out.uses
          have O5 := hide ((hB7.block w3.heap.size (by omega)).trans O4.out)
          have O6 := hide (World.alloc_heap_new w7 (.cells #[.int .i64 s.k, .int .i64 (knM s'.mv), .int .i64 (phM s'.mv), .int .i64 (cpM s'.mv), .int .i64 s.ms, .int .i64 s'.bs] 39))
          have HB7 := hide hB7
          clear hst hb7 hB7 x6 O4
          go_wp2_with fail
          refine hus.out.mono ?_
          rintro _ w9 ⟨rfl, hb9⟩
          have hl9 : w7.heap.size < w9.heap.size := by have := hb9.size; simp at this; omega
          have B9 := hide (B8.out.later hb9)
          have P1 := (hb9.block w3.heap.size (by simp; omega)).trans O5.out
          have P2 := (hb9.block w7.heap.size (by simp)).trans O6.out
          have c0 : ∀ i v, (#[Value.int .i64 s.k, .int .i64 (knM s.mv), .int .i64 (phM s.mv), .int .i64 (cpM s.mv), .int .i64 s.ms, .int .i64 s.bs])[i]? = some v → ∀ W, Below w9.heap.size w9 W → W.cell? ⟨w3.heap.size, i, none⟩ = some v := fun i v hv W hW => (hW.cell (p := ⟨w3.heap.size, i, none⟩) (by show w3.heap.size < w9.heap.size; omega)).trans (by simp only [World.cell?, P1]; exact hv)
          have c1 : ∀ i v, (#[Value.int .i64 s.k, .int .i64 (knM s'.mv), .int .i64 (phM s'.mv), .int .i64 (cpM s'.mv), .int .i64 s.ms, .int .i64 s'.bs])[i]? = some v → ∀ W, Below w9.heap.size w9 W → W.cell? ⟨w7.heap.size, i, none⟩ = some v := fun i v hv W hW => (hW.cell (p := ⟨w7.heap.size, i, none⟩) (by show w7.heap.size < w9.heap.size; omega)).trans (by simp only [World.cell?, P2]; exact hv)
          have HC0 := hide c0
          have HC1 := hide c1
          have HBb := hide hb9
          clear hus hb9 O5 O6 P1 P2 c0 c1
          obtain ⟨hrow, hgA⟩ := HR.out (by trivial)
          obtain ⟨hme, _⟩ := Hm5.out (by trivial)
          subst hme
          have hBt := ((HB7.out.trans (HBb.out.mono HB7.out.size)))
          have hg4 : w4.heap.size < w6.heap.size := hrow.lt
          have hr9 : RowR w9 w4.heap.size rs2 := hrow.kept (hBt.block _ hg4)
          have hbk4 : bk ≠ w4.heap.size := by have := B9.out.book.lt.1; intro he; exact absurd he (by have := HLB.out; omega)
          have B10 := hide (B9.out.lays hr9 hbk4 hgA (by have := HW1.out; omega))
          have M10 := hide (B10.out.mid (by rw [hxs]; exact Ht2.out))
          have hrt := hide (right_law M10.out.law 32 (by omega) (by omega))
          rw [show ((32 : Nat) : Int) = 32 from rfl] at hrt
          have z5 := B9.out.book.r
          have zf : w9.frozen? ⟨bk, 5, none⟩ = false := by simp [World.frozen?, B9.out.book.blk]
          have hbkl : bk < w9.heap.size := B9.out.book.lt.1
          obtain ⟨N, hN5⟩ : ∃ N : Nat, 2304 = N := ⟨_, rfl⟩
          rw [hN5] at z5 hrt
          rw [hN5]
          have HYtglbamalagacgaaGreat := hide hN5
          clear hrow hgA hBt hr9 hbk4 hN5
          go_wp2_with fail
          refine hrt.out.mono ?_
          rintro _ w10 ⟨rfl, hb10⟩
          have hsz : (w9.setCell ⟨bk, 5, none⟩ (.slice (some ⟨w4.heap.size, 0, none⟩) N N)).heap.size = w9.heap.size := by simp [World.setCell]
          have fin := hide (show Below w.heap.size w w10 from HB1.out.trans ((M10.out.later (by rw [← HYtglbamalagacgaaGreat.out] at hb10; exact hb10)).below.mono HB1.out.size))
          have kk : ∀ b i, b ≠ bk → b < w9.heap.size → w10.cell? ⟨b, i, none⟩ = w9.cell? ⟨b, i, none⟩ := fun b i hb hl => by
            simp only [World.cell?]
            rw [hb10.block b (by rw [hsz]; exact hl), Below.heap_setCell _ _ _ _ hb]
          have n3 : w3.heap.size ≠ bk := by have := HBK.out; omega
          have n7 : w7.heap.size ≠ bk := by have := HBK.out; omega
          have q00 := (kk w3.heap.size 0 n3 (by omega)).trans (HC0.out 0 _ rfl _ (Below.refl _ w9))
          have q04 := (kk w3.heap.size 4 n3 (by omega)).trans (HC0.out 4 _ rfl _ (Below.refl _ w9))
          have q10 := (kk w7.heap.size 0 n7 (by omega)).trans (HC1.out 0 _ rfl _ (Below.refl _ w9))
          have q14 := (kk w7.heap.size 4 n7 (by omega)).trans (HC1.out 4 _ rfl _ (Below.refl _ w9))
          clear hb10 hrt kk hsz z5
          go_wp2
          go_ret
          exact ⟨rfl, fin.out⟩
        · have hB7 := hb7.alloc hb7.size (.cells #[.int .i64 s.k, .int .i64 (knM s.mv), .int .i64 (phM s.mv), .int .i64 (cpM s.mv), .int .i64 s.ms, .int .i64 s.bs] 39)
          have B8 := hide (B7.out.later hB7)
          have hus := hide B8.out.uses
          have O5 := hide ((hB7.block w3.heap.size (by omega)).trans O4.out)
          have O6 := hide (World.alloc_heap_new w7 (.cells #[.int .i64 s.k, .int .i64 (knM s.mv), .int .i64 (phM s.mv), .int .i64 (cpM s.mv), .int .i64 s.ms, .int .i64 s.bs] 39))
          have HB7 := hide hB7
          clear hst hb7 hB7 x6 O4
          go_wp2_with fail
          refine hus.out.mono ?_
          rintro _ w9 ⟨rfl, hb9⟩
          have hl9 : w7.heap.size < w9.heap.size := by have := hb9.size; simp at this; omega
          have B9 := hide (B8.out.later hb9)
          have P1 := (hb9.block w3.heap.size (by simp; omega)).trans O5.out
          have P2 := (hb9.block w7.heap.size (by simp)).trans O6.out
          have c0 : ∀ i v, (#[Value.int .i64 s.k, .int .i64 (knM s.mv), .int .i64 (phM s.mv), .int .i64 (cpM s.mv), .int .i64 s.ms, .int .i64 s.bs])[i]? = some v → ∀ W, Below w9.heap.size w9 W → W.cell? ⟨w3.heap.size, i, none⟩ = some v := fun i v hv W hW => (hW.cell (p := ⟨w3.heap.size, i, none⟩) (by show w3.heap.size < w9.heap.size; omega)).trans (by simp only [World.cell?, P1]; exact hv)
          have c1 : ∀ i v, (#[Value.int .i64 s.k, .int .i64 (knM s.mv), .int .i64 (phM s.mv), .int .i64 (cpM s.mv), .int .i64 s.ms, .int .i64 s.bs])[i]? = some v → ∀ W, Below w9.heap.size w9 W → W.cell? ⟨w7.heap.size, i, none⟩ = some v := fun i v hv W hW => (hW.cell (p := ⟨w7.heap.size, i, none⟩) (by show w7.heap.size < w9.heap.size; omega)).trans (by simp only [World.cell?, P2]; exact hv)
          have HC0 := hide c0
          have HC1 := hide c1
          have HBb := hide hb9
          clear hus hb9 O5 O6 P1 P2 c0 c1
          have M9 := hide (B9.out.mid HT.out)
          have hrt := hide (right_law M9.out.law 32 (by omega) (by omega))
          rw [show ((32 : Nat) : Int) = 32 from rfl] at hrt
          have k01 := HC0.out 1 _ rfl _ (Below.refl _ w9)
          have k02 := HC0.out 2 _ rfl _ (Below.refl _ w9)
          have k03 := HC0.out 3 _ rfl _ (Below.refl _ w9)
          have k05 := HC0.out 5 _ rfl _ (Below.refl _ w9)
          have k11 := HC1.out 1 _ rfl _ (Below.refl _ w9)
          have k12 := HC1.out 2 _ rfl _ (Below.refl _ w9)
          have k13 := HC1.out 3 _ rfl _ (Below.refl _ w9)
          have k15 := HC1.out 5 _ rfl _ (Below.refl _ w9)
          go_wp2_with fail
          refine hrt.out.mono ?_
          rintro _ w10 ⟨rfl, hb10⟩
          have fin := hide (HB1.out.trans ((M9.out.later hb10).below.mono HB1.out.size))
          have q00 := HC0.out 0 _ rfl _ hb10
          have q04 := HC0.out 4 _ rfl _ hb10
          have q10 := HC1.out 0 _ rfl _ hb10
          have q14 := HC1.out 4 _ rfl _ hb10
          clear hb10 hrt k01 k02 k03 k05 k11 k12 k13 k15
          go_wp2
          go_ret
          exact ⟨rfl, fin.out⟩
        · have hB7 := hb7.alloc hb7.size (.cells #[.int .i64 s.k, .int .i64 (knM s.mv), .int .i64 (phM s.mv), .int .i64 (cpM s.mv), .int .i64 s.ms, .int .i64 s.bs] 39)
          have B8 := hide (B7.out.later hB7)
          have hus := hide B8.out.uses
          have O5 := hide ((hB7.block w3.heap.size (by omega)).trans O4.out)
          have O6 := hide (World.alloc_heap_new w7 (.cells #[.int .i64 s.k, .int .i64 (knM s.mv), .int .i64 (phM s.mv), .int .i64 (cpM s.mv), .int .i64 s.ms, .int .i64 s.bs] 39))
          have HB7 := hide hB7
          clear hst hb7 hB7 x6 O4
          go_wp2_with fail
          refine hus.out.mono ?_
          rintro _ w9 ⟨rfl, hb9⟩
          have hl9 : w7.heap.size < w9.heap.size := by have := hb9.size; simp at this; omega
          have B9 := hide (B8.out.later hb9)
          have P1 := (hb9.block w3.heap.size (by simp; omega)).trans O5.out
          have P2 := (hb9.block w7.heap.size (by simp)).trans O6.out
          have c0 : ∀ i v, (#[Value.int .i64 s.k, .int .i64 (knM s.mv), .int .i64 (phM s.mv), .int .i64 (cpM s.mv), .int .i64 s.ms, .int .i64 s.bs])[i]? = some v → ∀ W, Below w9.heap.size w9 W → W.cell? ⟨w3.heap.size, i, none⟩ = some v := fun i v hv W hW => (hW.cell (p := ⟨w3.heap.size, i, none⟩) (by show w3.heap.size < w9.heap.size; omega)).trans (by simp only [World.cell?, P1]; exact hv)
          have c1 : ∀ i v, (#[Value.int .i64 s.k, .int .i64 (knM s.mv), .int .i64 (phM s.mv), .int .i64 (cpM s.mv), .int .i64 s.ms, .int .i64 s.bs])[i]? = some v → ∀ W, Below w9.heap.size w9 W → W.cell? ⟨w7.heap.size, i, none⟩ = some v := fun i v hv W hW => (hW.cell (p := ⟨w7.heap.size, i, none⟩) (by show w7.heap.size < w9.heap.size; omega)).trans (by simp only [World.cell?, P2]; exact hv)
          have HC0 := hide c0
          have HC1 := hide c1
          have HBb := hide hb9
          clear hus hb9 O5 O6 P1 P2 c0 c1
          have M9 := hide (B9.out.mid HT.out)
          have hrt := hide (right_law M9.out.law 32 (by omega) (by omega))
          rw [show ((32 : Nat) : Int) = 32 from rfl] at hrt
          have k01 := HC0.out 1 _ rfl _ (Below.refl _ w9)
          have k02 := HC0.out 2 _ rfl _ (Below.refl _ w9)
          have k03 := HC0.out 3 _ rfl _ (Below.refl _ w9)
          have k05 := HC0.out 5 _ rfl _ (Below.refl _ w9)
          have k11 := HC1.out 1 _ rfl _ (Below.refl _ w9)
          have k12 := HC1.out 2 _ rfl _ (Below.refl _ w9)
          have k13 := HC1.out 3 _ rfl _ (Below.refl _ w9)
          have k15 := HC1.out 5 _ rfl _ (Below.refl _ w9)
          go_wp2_with fail
          refine hrt.out.mono ?_
          rintro _ w10 ⟨rfl, hb10⟩
          have fin := hide (HB1.out.trans ((M9.out.later hb10).below.mono HB1.out.size))
          have q00 := HC0.out 0 _ rfl _ hb10
          have q04 := HC0.out 4 _ rfl _ hb10
          have q10 := HC1.out 0 _ rfl _ hb10
          have q14 := HC1.out 4 _ rfl _ hb10
          clear hb10 hrt k01 k02 k03 k05 k11 k12 k13 k15
          go_wp2
          go_ret
          exact ⟨rfl, fin.out⟩
        · have hB7 := hb7.alloc hb7.size (.cells #[.int .i64 s.k, .int .i64 (knM s.mv), .int .i64 (phM s.mv), .int .i64 (cpM s.mv), .int .i64 s.ms, .int .i64 s.bs] 39)
          have B8 := hide (B7.out.later hB7)
          have hus := hide B8.out.uses
          have O5 := hide ((hB7.block w3.heap.size (by omega)).trans O4.out)
          have O6 := hide (World.alloc_heap_new w7 (.cells #[.int .i64 s.k, .int .i64 (knM s.mv), .int .i64 (phM s.mv), .int .i64 (cpM s.mv), .int .i64 s.ms, .int .i64 s.bs] 39))
          have HB7 := hide hB7
          clear hst hb7 hB7 x6 O4
          go_wp2_with fail
          refine hus.out.mono ?_
          rintro _ w9 ⟨rfl, hb9⟩
          have hl9 : w7.heap.size < w9.heap.size := by have := hb9.size; simp at this; omega
          have B9 := hide (B8.out.later hb9)
          have P1 := (hb9.block w3.heap.size (by simp; omega)).trans O5.out
          have P2 := (hb9.block w7.heap.size (by simp)).trans O6.out
          have c0 : ∀ i v, (#[Value.int .i64 s.k, .int .i64 (knM s.mv), .int .i64 (phM s.mv), .int .i64 (cpM s.mv), .int .i64 s.ms, .int .i64 s.bs])[i]? = some v → ∀ W, Below w9.heap.size w9 W → W.cell? ⟨w3.heap.size, i, none⟩ = some v := fun i v hv W hW => (hW.cell (p := ⟨w3.heap.size, i, none⟩) (by show w3.heap.size < w9.heap.size; omega)).trans (by simp only [World.cell?, P1]; exact hv)
          have c1 : ∀ i v, (#[Value.int .i64 s.k, .int .i64 (knM s.mv), .int .i64 (phM s.mv), .int .i64 (cpM s.mv), .int .i64 s.ms, .int .i64 s.bs])[i]? = some v → ∀ W, Below w9.heap.size w9 W → W.cell? ⟨w7.heap.size, i, none⟩ = some v := fun i v hv W hW => (hW.cell (p := ⟨w7.heap.size, i, none⟩) (by show w7.heap.size < w9.heap.size; omega)).trans (by simp only [World.cell?, P2]; exact hv)
          have HC0 := hide c0
          have HC1 := hide c1
          have HBb := hide hb9
          clear hus hb9 O5 O6 P1 P2 c0 c1
          have M9 := hide (B9.out.mid HT.out)
          have hrt := hide (right_law M9.out.law 32 (by omega) (by omega))
          rw [show ((32 : Nat) : Int) = 32 from rfl] at hrt
          have k01 := HC0.out 1 _ rfl _ (Below.refl _ w9)
          have k02 := HC0.out 2 _ rfl _ (Below.refl _ w9)
          have k03 := HC0.out 3 _ rfl _ (Below.refl _ w9)
          have k05 := HC0.out 5 _ rfl _ (Below.refl _ w9)
          have k11 := HC1.out 1 _ rfl _ (Below.refl _ w9)
          have k12 := HC1.out 2 _ rfl _ (Below.refl _ w9)
          have k13 := HC1.out 3 _ rfl _ (Below.refl _ w9)
          have k15 := HC1.out 5 _ rfl _ (Below.refl _ w9)
          go_wp2_with fail
          refine hrt.out.mono ?_
          rintro _ w10 ⟨rfl, hb10⟩
          have fin := hide (HB1.out.trans ((M9.out.later hb10).below.mono HB1.out.size))
          have q00 := HC0.out 0 _ rfl _ hb10
          have q04 := HC0.out 4 _ rfl _ hb10
          have q10 := HC1.out 0 _ rfl _ hb10
          have q14 := HC1.out 4 _ rfl _ hb10
          clear hb10 hrt k01 k02 k03 k05 k11 k12 k13 k15
          go_wp2
          go_ret
          exact ⟨rfl, fin.out⟩
  · have hcall := hide (opened_no tab3 tab3_news cf (w.alloc (.cells #[.int .i64 cf.e, .int .i64 cf.b, .int .i64 cf.c, .int .i64 cf.l] 23)) hcf)
    obtain ⟨va, vc, rfl, _, _⟩ := hs
    obtain ⟨va2, vc2, rfl, _, _⟩ := hc2
    obtain ⟨e, b, ch, lg⟩ := cf
    clear hB1
    go_enter Tryz.func8, Tryz.ntmps8
    go_wp2_with fail
    refine hcall.out.mono ?_
    rintro _ w2 ⟨rfl, hb2⟩
    have fin := hide (HB1.out.trans (hb2.mono HB1.out.size))
    clear hcall hb2
    go_wp2
    go_ret
    exact ⟨rfl, fin.out⟩

end Go.Proofs.YtglbamalagacgaaGreat

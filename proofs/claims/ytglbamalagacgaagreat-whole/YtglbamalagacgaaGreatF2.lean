import Derived.Test.YtglbamalagacgaaGreatF1
namespace Go.Proofs.YtglbamalagacgaaGreat
open Go.RowKit Go.Shelf

attribute [local go_sem] Oper.semAt_some

-- what right needs of the table's calls
structure Told (w : World) (t : Nat) (xs : List Ent) (n : Nat) : Prop where
  look : ∀ W a, Below w.heap.size w W → Calls Tryz.prog 41 #[ptrV t, .int .i64 a] W fun r w' => r = .returned (.tuple #[rteV (lookR xs a).1.a (lookR xs a).1.l (lookR xs a).1.n, .int .i64 (lookR xs a).2]) ∧ Below W.heap.size W w'
  page : ∀ W a l, Below w.heap.size w W → isPfx a l = true → Calls Tryz.prog 28 #[ptrV t, pfxV a l, .int .i64 (n : Int)] W (PgPost W ((fromE xs a l).take n))

set_option maxRecDepth 20000 in
set_option maxHeartbeats 4000000 in
theorem right_any (w : World) (bk g t : Nat) (cf : Cfg) (rs : Nat → Int) (xs : List Ent) (n : Nat) (hn1 : 1 ≤ n) (hn2 : n ≤ 32) (hB : BookF w bk g t cf rs) (ht : Tie rs xs) (hs : Sorted xs) (hk : ∀ x ∈ xs, okE x) (hT : Told w t xs n) :
    Calls Tryz.prog 15 #[ptrV bk, .int .i64 (n : Int)] w fun r w' => r = .returned (.bool true) ∧ Below w.heap.size w w' := by
  have bl := hB.lt.1
  have HB := hide hB
  have HT := hide ht
  have HS := hide hs
  have HK := hide hk
  have HC := hide hT
  clear hB ht hs hk hT
  go_enter Tryz.func15, Tryz.ntmps15
  go_wp2
  go_loopw [5] (fun sl wr => ∃ a : Nat, a ≤ 256 ∧ sl = .int .i64 (a : Int) ∧ Hid (Below w.heap.size w wr)) (fun s _ => 256 - (intOf s).toNat)
  case atStart => exact ⟨0, by omega, rfl, Below.refl _ _⟩
  case round =>
    obtain ⟨a, ha, rfl, HBr⟩ := hrel
    have hbr := HB.out.kept (HBr.out.block _ HB.out.lt.1) (HBr.out.block _ HB.out.lt.2)
    by_cases hlt : a < 256
    · have j0 : (0 : Int) ≤ (a : Int) := by omega
      have j1 : (a : Int) < 256 := by omega
      have hw1 : IntKind.i64.wrap ((a : Int) + 1) = (a : Int) + 1 := by rw [IntKind.wrap_i64]; omega
      have hbst := hide (bookBest_any wr bk g t cf rs xs a hbr HT.out HK.out j0 j1)
      have zb : bk < wr.heap.size := by have := HBr.out.size; omega
      clear hbr
      cases hbl : blN xs (a : Int) 9 with
      | none =>
        rw [hbl, show blI none = -1 from rfl] at hbst
        have HLK := hide (fun W hW => HC.out.look W (a : Int) hW)
        rw [look_none j0 j1 hbl] at HLK
        dsimp only at HLK
        clear hbl
        go_wp2_with fail
        refine hbst.out.mono ?_
        rintro _ w2 ⟨rfl, hb2⟩
        have hB2 := HBr.out.trans (hb2.mono HBr.out.size)
        have x4 := (HB.out.kept (hB2.block _ HB.out.lt.1) (hB2.block _ HB.out.lt.2)).x
        have zb2 : bk < w2.heap.size := by have := hB2.size; omega
        have hlk := hide (HLK.out w2 hB2)
        have HB2 := hide hB2
        clear hB2 hb2 hbst HLK
        go_wp2_with fail
        refine hlk.out.mono ?_
        rintro _ w3 ⟨rfl, hb3⟩
        have HB3 := hide (HB2.out.trans (hb3.mono HB2.out.size))
        have next := hide (show ∀ ob, ∃ a' : Nat, a' ≤ 256 ∧ Value.int .i64 ((a : Int) + 1) = .int .i64 (a' : Int) ∧ Hid (Below w.heap.size w (w3.alloc ob)) from fun ob => ⟨a + 1, by omega, by simp, HB3.out.alloc HB3.out.size ob⟩)
        clear hb3 hlk x4
        go_wp2
        exact ⟨next.out _, by simp [intOf]; omega⟩
      | some m =>
        rw [hbl, show blI (some m) = (m : Int) from rfl] at hbst
        have HLK := hide (fun W hW => HC.out.look W (a : Int) hW)
        rw [look_some j0 j1 hbl] at HLK
        dsimp only at HLK
        have hm9 := (blN_get 9 hbl).2
        have d0 : (0 : Int) ≤ (m : Int) := by omega
        have d8 : (m : Int) ≤ 8 := by omega
        have hw0 := (wid_bd m).1
        have hwb := (wid_bd m).2
        have hwn : ¬ wid m = 0 := by omega
        have hmn := Int.emod_nonneg (a : Int) hwn
        have hml := Int.emod_lt_of_pos (a : Int) hw0
        have hcb := cov_bd (a : Int) m j0
        have hcv : (a : Int) - (a : Int) % wid m = cov a m := rfl
        have hpf : isPfx (cov a m) m = true := cov_pfx j0 j1 (by omega)
        obtain ⟨k, hk1, hk2, hk3⟩ := rank_nat hpf
        have hwr1 : IntKind.i64.wrap ((a : Int) - (a : Int) % wid m) = cov a m := by rw [IntKind.wrap_i64, hcv]; omega
        have hval := HT.out.val (cov a m) m hpf
        rw [hk3] at hval
        have hrk := hide (fun W => rank_any (cov a m) m hpf W)
        have hwd := hide (fun W => width_any (m : Int) d0 d8 W)
        rw [hk2] at hrk
        have hi0 : (0 : Int) ≤ (k : Int) := by omega
        have hi1 : (k : Int) < 2304 := by omega
        generalize orZ (getE xs (cov a m) m) = vv at *
        generalize cov a m = cvv at *
        clear hbl hcv hcb hmn hml hpf hk3 hk2
        go_wp2_with fail
        refine hbst.out.mono ?_
        rintro _ w2 ⟨rfl, hb2⟩
        have hB2 := HBr.out.trans (hb2.mono HBr.out.size)
        have x4 := (HB.out.kept (hB2.block _ HB.out.lt.1) (hB2.block _ HB.out.lt.2)).x
        have zb2 : bk < w2.heap.size := by have := hB2.size; omega
        have hlk := hide (HLK.out w2 hB2)
        have HB2 := hide hB2
        clear hB2 hb2 hbst HLK
        go_wp2_with fail
        refine hlk.out.mono ?_
        rintro _ w3 ⟨rfl, hb3⟩
        have hB3 := HB2.out.trans (hb3.mono HB2.out.size)
        have hbk3 := HB.out.kept (hB3.block _ HB.out.lt.1) (hB3.block _ HB.out.lt.2)
        have y5 := hbk3.r
        have yc := hbk3.cell hk1
        rw [hval] at yc
        have zb3 : bk < w3.heap.size := by have := hB3.size; omega
        have zg3 : g < w3.heap.size := hbk3.lt.2
        have HB3 := hide hB3
        have next := hide (show ∀ W, Below w.heap.size w W → ∃ a' : Nat, a' ≤ 256 ∧ Value.int .i64 ((a : Int) + 1) = .int .i64 (a' : Int) ∧ Hid (Below w.heap.size w W) from fun W hW => ⟨a + 1, by omega, by simp, hide hW⟩)
        clear hb3 hlk x4 hbk3 hB3 hval
        go_wp2_with fail
        refine (hwd.out _).mono ?_
        rintro _ w4 ⟨rfl, rfl⟩
        go_wp2
        go_quiet ((go_at_call 43; exact Calls.quiet_of_same (hrk.out _)))
        go_wp2
        exact ⟨next.out _ (HB3.out.trans (Below.mono (by repeat (first | exact Below.refl _ _ | refine below_drewN ?_ _ | refine Below.drew ?_ | refine Below.trans ?_ (Below.mono (by assumption) (by first | omega | (simp; omega) | simp)) | refine Below.alloc ?_ (by first | omega | (simp; omega) | simp) _ | refine Below.setCell ?_ (by first | omega | (simp; omega) | simp) _)) HB3.out.size)), by simp [intOf]; omega⟩
    · obtain rfl : a = 256 := by omega
      clear hbr
      go_wp2
      go_loopw [10, 11] (fun s10 s11 wr => ∃ k i : Nat, s10 = .int .i64 (k : Int) ∧ s11 = .int .i64 (i : Int) ∧ i ≤ k ∧ k < 2304 ∧ Hid (okR k = true) ∧ Hid (Below w.heap.size w wr)) (fun s10 _ _ => 2304 - (intOf s10).toNat)
      case atStart => exact ⟨0, 0, rfl, rfl, by omega, by omega, hide okR_zero, HBr⟩
      case round =>
        clear HBr
        obtain ⟨k, i, rfl, rfl, hik, hk, HO, HBr⟩ := hrel
        obtain ⟨hr1, hr2⟩ := okR_rank HO.out
        have hpf : isPfx ((k : Int) / 9) ((k : Int) % 9) = true := by rw [← okR_int]; exact HO.out
        have hfr : fromE xs ((k : Int) / 9) ((k : Int) % 9) = frR xs k := by rw [from_fr HK.out hpf, show (9 * ((k : Int) / 9) + (k : Int) % 9).toNat = k by omega]
        have hbr := HB.out.kept (HBr.out.block _ HB.out.lt.1) (HBr.out.block _ HB.out.lt.2)
        have x4 := hbr.x
        have zb : bk < wr.heap.size := by have := HBr.out.size; omega
        have j0 : (0 : Int) ≤ (k : Int) := by omega
        have j1 : (i : Int) ≤ 2304 := by omega
        have hw1 : IntKind.i64.wrap ((i : Int) + 1) = (i : Int) + 1 := by rw [IntKind.wrap_i64]; omega
        have hw2 : IntKind.i64.wrap ((k : Int) / 9) = (k : Int) / 9 := by rw [IntKind.wrap_i64]; omega
        have hpg := hide (HC.out.page wr _ _ HBr.out hpf)
        rw [hfr] at hpg
        clear hr1 hr2 hpf hfr hbr
        go_wp2_with fail
        refine hpg.out.mono ?_
        rintro _ w2 ⟨v, rfl, hrow, hb2, -⟩
        obtain ⟨ys, hys⟩ : ∃ ys, (frR xs k).take n = ys := ⟨_, rfl⟩
        rw [hys] at hrow
        obtain ⟨va, vc, rfl⟩ := hrow.shape
        have hyn : ys.length ≤ n := by rw [← hys, List.length_take]; omega
        have HB2 := hide (HBr.out.trans (hb2.mono HBr.out.size))
        have Hrow := hide hrow
        have HY := hide hys
        have d0 : decide ((n : Int) < (ys.length : Int)) = false := decide_eq_false (by omega)
        clear hpg hb2 hrow hys x4 HBr
        go_wp2
        go_loopw [10, 14] (fun s10 s14 wr => ∃ q j : Nat, s10 = .int .i64 (q : Int) ∧ s14 = .int .i64 (j : Int) ∧ j ≤ ys.length ∧ k + j ≤ q ∧ q ≤ 2304 ∧ Hid (frR xs q = (frR xs k).drop j) ∧ Hid (Below w2.heap.size w2 wr)) (fun _ s14 _ => ys.length - (intOf s14).toNat)
        case atStart => exact ⟨k, 0, rfl, rfl, by omega, by omega, by omega, hide rfl, hide (Below.refl _ _)⟩
        case round =>
          obtain ⟨q, j, rfl, rfl, hj, hkq, hq, HF, HBq⟩ := hrel
          by_cases hjl : j < ys.length
          · obtain ⟨x, hx⟩ : ∃ x, ys[j]? = some x := ⟨_, List.getElem?_eq_getElem hjl⟩
            have hdr := take_get (n := n) (zs := frR xs k) (j := j) (x := x) (by rw [HY.out]; exact hx)
            obtain ⟨m1, m2, m3, m4⟩ := frR_head HT.out HS.out HK.out (HF.out.trans hdr)
            obtain ⟨m5, m6, m7, m8⟩ := HT.out.on HS.out HK.out m1
            have hpx := (isPfx_iff _ _).1 m8
            obtain ⟨gv, rfl, g0, g1, g2, g3⟩ := rowG_rte Hrow.out hx
            obtain ⟨r, hr⟩ : ∃ r, rkE x = r := ⟨_, rfl⟩
            have hra : (r : Int) / 9 = x.a := by rw [← hr]; unfold rkE; omega
            have hrl : (r : Int) % 9 = x.l := by rw [← hr]; unfold rkE; omega
            rw [hr] at m2 m3 m4 m5 m7
            have HZ := hide m3
            have HF2 := hide m4
            obtain ⟨xa, xl, xn⟩ := x
            simp only at g1 g2 g3 m5 m6 hra hrl
            clear hr m3 m4 hpx m8 m1 hdr hx HF
            go_wp2
            go_loopw [10] (fun s10 wr => ∃ p : Nat, s10 = .int .i64 (p : Int) ∧ q ≤ p ∧ p ≤ r ∧ Hid (Below w2.heap.size w2 wr)) (fun s10 _ => r - (intOf s10).toNat)
            case atStart => exact ⟨q, rfl, by omega, m2, HBq⟩
            case round =>
              clear HBq
              obtain ⟨p, rfl, hqp, hpr, HBq⟩ := hrel
              have hbw := HB2.out.trans (HBq.out.mono HB2.out.size)
              have hbr := HB.out.kept (hbw.block _ HB.out.lt.1) (hbw.block _ HB.out.lt.2)
              have y5 := hbr.r
              have zb : bk < wr.heap.size := by have := hbw.size; omega
              have hp : p < 2304 := by omega
              have yc := hbr.cell hp
              have i0 : (0 : Int) ≤ (p : Int) := by omega
              have i1 : (p : Int) < 2304 := by omega
              have hw3 : IntKind.i64.wrap ((p : Int) + 1) = (p : Int) + 1 := by rw [IntKind.wrap_i64]; omega
              have HBw := hide hbw
              clear hbr hbw
              by_cases hlr : p < r
              · rw [HZ.out p hqp hlr] at yc
                have next := hide (show ∃ p' : Nat, Value.int .i64 ((p : Int) + 1) = .int .i64 (p' : Int) ∧ q ≤ p' ∧ p' ≤ r ∧ Hid (Below w2.heap.size w2 wr) from ⟨p + 1, by simp, by omega, by omega, HBq⟩)
                go_wp2
                exact ⟨next.out, by simp [intOf]; omega⟩
              · obtain rfl : p = r := by omega
                rw [m5] at yc
                have dn : (xn == 0) = false := by simpa using m6
                have l0 : (0 : Int) ≤ (j : Int) := by omega
                have l1 : (j : Int) < (ys.length : Int) := by omega
                have f0 := (HBq.out.cell (p := ⟨gv, j * 3, none⟩) g0).trans g1
                have f1 := (HBq.out.cell (p := ⟨gv, j * 3 + 1, none⟩) g0).trans g2
                have f2 := (HBq.out.cell (p := ⟨gv, j * 3 + 2, none⟩) g0).trans g3
                have hw4 : IntKind.i64.wrap ((j : Int) + 1) = (j : Int) + 1 := by rw [IntKind.wrap_i64]; omega
                have hw5 : IntKind.i64.wrap ((p : Int) / 9) = (p : Int) / 9 := by rw [IntKind.wrap_i64]; omega
                have d5 : ((p : Int) == 2304) = false := by simp; omega
                have next := hide (show ∀ W, Below wr.heap.size wr W → ∃ q' j' : Nat, Value.int .i64 ((p : Int) + 1) = .int .i64 (q' : Int) ∧ Value.int .i64 ((j : Int) + 1) = .int .i64 (j' : Int) ∧ j' ≤ ys.length ∧ k + j' ≤ q' ∧ q' ≤ 2304 ∧ Hid (frR xs q' = (frR xs k).drop j') ∧ Hid (Below w2.heap.size w2 W) from fun W hW => ⟨p + 1, j + 1, by simp, by simp, by omega, by omega, by omega, HF2, HBq.out.trans (hW.mono HBq.out.size)⟩)
                clear g1 g2 g3 m5 m6 HF2 HZ
                go_wp2
                go_quiet (fail)
                go_wp2
                exact ⟨next.out _ (by repeat (first | exact Below.refl _ _ | refine below_drewN ?_ _ | refine Below.drew ?_ | refine Below.trans ?_ (Below.mono (by assumption) (by first | omega | (simp; omega) | simp)) | refine Below.alloc ?_ (by first | omega | (simp; omega) | simp) _ | refine Below.setCell ?_ (by first | omega | (simp; omega) | simp) _)), by simp [intOf]; omega⟩
          · obtain rfl : j = ys.length := by omega
            have hon := hide (onward_any q hq wr)
            have hbw := HB2.out.trans (HBq.out.mono HB2.out.size)
            have HBw := hide hbw
            clear hbw HBq hjl
            go_wp2_with fail
            refine hon.out.mono ?_
            rintro _ w3 ⟨⟨v, rfl, hv⟩, hb3⟩
            have HB3 := hide (HBw.out.trans (hb3.mono HBw.out.size))
            clear hb3 hon HBw HB2
            rcases hv with ⟨rfl, -⟩ | ⟨q', rfl, h1, h2, h3, h4⟩
            · by_cases hlen : (ys.length : Int) < (n : Int)
              · go_wp2
                go_ret
                exact ⟨rfl, HB3.out⟩
              · have dl : decide ((ys.length : Int) < (n : Int)) = false := decide_eq_false hlen
                go_wp2
                go_ret
                exact ⟨rfl, HB3.out⟩
            · have e1 : frR xs q' = frR xs q := onR_fr HK.out h1 h4
              have hq0 : (0 : Int) ≤ (q' : Int) := by omega
              have dq : decide ((q' : Int) < 0) = false := decide_eq_false (by omega)
              by_cases hlen : (ys.length : Int) < (n : Int)
              · have hnil : frR xs q' = [] := by
                  rw [e1, HF.out]
                  refine List.drop_eq_nil_of_le ?_
                  have := HY.out
                  rw [← this, List.length_take] at hlen
                  rw [← this, List.length_take]
                  omega
                have HZ := hide (fun p (hp : q' ≤ p) => frR_nil HT.out hnil p hp)
                clear e1 hnil h4 h3
                go_wp2
                go_loopw [10] (fun s10 wr => ∃ p : Nat, s10 = .int .i64 (p : Int) ∧ q' ≤ p ∧ p ≤ 2304 ∧ Hid (Below w.heap.size w wr)) (fun s10 _ => 2304 - (intOf s10).toNat)
                case atStart => exact ⟨q', rfl, by omega, by omega, HB3⟩
                case round =>
                  clear HB3
                  obtain ⟨p, rfl, hqp, hp, HB3⟩ := hrel
                  have hbr := HB.out.kept (HB3.out.block _ HB.out.lt.1) (HB3.out.block _ HB.out.lt.2)
                  have y5 := hbr.r
                  have zb : bk < wr.heap.size := by have := HB3.out.size; omega
                  by_cases hlt : p < 2304
                  · have yc := hbr.cell hlt
                    rw [HZ.out p hqp] at yc
                    have i0 : (0 : Int) ≤ (p : Int) := by omega
                    have i1 : (p : Int) < 2304 := by omega
                    have hw3 : IntKind.i64.wrap ((p : Int) + 1) = (p : Int) + 1 := by rw [IntKind.wrap_i64]; omega
                    have next := hide (show ∃ p' : Nat, Value.int .i64 ((p : Int) + 1) = .int .i64 (p' : Int) ∧ q' ≤ p' ∧ p' ≤ 2304 ∧ Hid (Below w.heap.size w wr) from ⟨p + 1, by simp, by omega, by omega, HB3⟩)
                    clear hbr
                    go_wp2
                    exact ⟨next.out, by simp [intOf]; omega⟩
                  · obtain rfl : p = 2304 := by omega
                    clear hbr
                    go_wp2
                    go_ret
                    exact ⟨rfl, HB3.out⟩
              · have dl : decide ((ys.length : Int) < (n : Int)) = false := decide_eq_false hlen
                have next := hide (show ∃ k' i' : Nat, Value.int .i64 (q' : Int) = .int .i64 (k' : Int) ∧ Value.int .i64 ((i : Int) + 1) = .int .i64 (i' : Int) ∧ i' ≤ k' ∧ k' < 2304 ∧ Hid (okR k' = true) ∧ Hid (Below w.heap.size w w3) from ⟨q', i + 1, rfl, by simp, by omega, h2, h3, HB3⟩)
                clear e1 h4 h3
                go_wp2
                refine ⟨?_, by show 2304 - (q' : Int).toNat < 2304 - (k : Int).toNat; omega⟩
                repeat apply Exists.intro
                exact ⟨next.out, rfl⟩

end Go.Proofs.YtglbamalagacgaaGreat

import Derived.Test.YtglbamalagacgaaGreatE2
import Derived.Test.YtglbamalagacgaaGreatK2
namespace Go.Proofs.YtglbamalagacgaaGreat
open Go.RowKit Go.Shelf

attribute [local go_sem] Oper.semAt_some

theorem wrap_eq (n : Int) : IntKind.i64.wrap n = wrap64 n := by rw [IntKind.wrap_i64, wrap64]
theorem wrap_ne (n : Int) : ¬ n = wrap64 (n + 1) := by unfold wrap64; omega
set_option maxHeartbeats 2000000 in
set_option maxRecDepth 4000 in
theorem counted_any (cf : Cfg) (v : Value) (ss : List Stp) (w : World) (hs : StepsAt w v ss) :
    Calls Tryz.prog 6 #[cfgV cf, v] w fun r w' => r = .returned (.bool true) ∧ Below w.heap.size w w' := by
  have hB1 : Below w.heap.size w (w.alloc (.cells #[.int .i64 cf.e, .int .i64 cf.b, .int .i64 cf.c, .int .i64 cf.l] 23)) := (Below.refl _ w).alloc (Nat.le_refl _) _
  have HB1 := hide hB1
  by_cases hcf : isCfg cf
  · have hcall := hide (opened_yes tab3 tab3_news cf (w.alloc (.cells #[.int .i64 cf.e, .int .i64 cf.b, .int .i64 cf.c, .int .i64 cf.l] 23)) hcf)
    have Hs := hide (hs.later hB1)
    obtain ⟨va, vc, rfl, hml, _⟩ := hs
    obtain ⟨e, b, ch, lg⟩ := cf
    unfold maxLen at hml
    clear hB1
    go_enter Tryz.func6, Tryz.ntmps6
    go_wp2_with fail
    refine hcall.out.mono ?_
    rintro _ w2 ⟨bk, g, t, s, F, rfl, hL, hb2, h1, h2, h3, -⟩
    have hM : Mid tab3 (w.alloc (.cells #[.int .i64 e, .int .i64 b, .int .i64 ch, .int .i64 lg] 23)) w2 bk g t ⟨e, b, ch, lg⟩ (fun _ => 0) s F := ⟨hL, hb2, h1, h2, h3⟩
    have HM := hide hM
    clear hM hL hb2 h1 h2 h3 hcall
    go_wp2
    go_loopw [7] (fun sl wr => ∃ (i : Nat) (g : Nat) (rs : Nat → Int) (s : TS) (F : List Nat), i ≤ ss.length ∧ sl = .int .i64 (i : Int) ∧ Hid (Mid tab3 (w.alloc (.cells #[.int .i64 e, .int .i64 b, .int .i64 ch, .int .i64 lg] 23)) wr bk g t ⟨e, b, ch, lg⟩ rs s F)) (fun s _ => ss.length - (intOf s).toNat)
    case atStart => exact ⟨0, g, _, s, F, Nat.zero_le _, rfl, HM⟩
    case round =>
      obtain ⟨i, g, rs, s, F, hi, rfl, HM⟩ := hrel
      by_cases hlt : i < ss.length
      · obtain ⟨x, hx⟩ : ∃ x, ss[i]? = some x := ⟨_, List.getElem?_eq_getElem hlt⟩
        obtain ⟨va', vc', hve, _, hst⟩ := Hs.out
        obtain ⟨A, hA0, hA, hcs, a0, a1, a2, a3, a4⟩ := hst i x hx
        cases hve
        subst hA0
        have hk : ∀ j, (⟨(A.add (i * 5)).block, (A.add (i * 5)).off + j, none⟩ : Addr).block < (w.alloc (.cells #[.int .i64 e, .int .i64 b, .int .i64 ch, .int .i64 lg] 23)).heap.size := fun j => by simpa [addB] using hA
        obtain ⟨xk, xa, xl, xn, xv, xcs⟩ := x
        simp only at hcs a0 a1 a2 a3 a4
        have j0 : (0 : Int) ≤ (i : Int) := by omega
        have j1 : (i : Int) < (ss.length : Int) := by omega
        have hwr : IntKind.i64.wrap ((i : Int) + 1) = (i : Int) + 1 := by rw [IntKind.wrap_i64]; omega
        have M3 := HM.out
        have Ha0 := hide a0
        replace a0 := (M3.below.cell (p := A.add (i * 5)) (by simpa [addB] using hA)).trans a0
        replace a1 := (M3.below.cell (p := ⟨(A.add (i * 5)).block, (A.add (i * 5)).off + 1, none⟩) (hk 1)).trans a1
        replace a2 := (M3.below.cell (p := ⟨(A.add (i * 5)).block, (A.add (i * 5)).off + 2, none⟩) (hk 2)).trans a2
        replace a3 := (M3.below.cell (p := ⟨(A.add (i * 5)).block, (A.add (i * 5)).off + 3, none⟩) (hk 3)).trans a3
        replace a4 := (M3.below.cell (p := ⟨(A.add (i * 5)).block, (A.add (i * 5)).off + 4, none⟩) (hk 4)).trans a4
        by_cases h6 : xk = 6
        · subst h6
          have hlg : (s.lim, s.ch) = (lg, ch) := M3.law.lg
          have hS : MidS (w.alloc (.cells #[.int .i64 e, .int .i64 b, .int .i64 ch, .int .i64 lg] 23)) wr bk t ⟨e, b, ch, lg⟩ s w.heap.size (.cells #[.int .i64 e, .int .i64 b, .int .i64 ch, .int .i64 lg] 23) := ⟨M3.law.tab.1, congrArg Prod.fst hlg, congrArg Prod.snd hlg, g, rs, F, M3, M3.first (World.alloc_heap_new w _)⟩
          have hcn := step_cnt s hS.1
          obtain ⟨x1, x2⟩ := hS.x
          have hsta := hide hS.state
          clear hst hx hcs M3 hS hlg HM hk a1 a2 a3 a4
          go_wp2_with fail
          refine hsta.out.mono ?_
          rintro _ w3 ⟨rfl, m3, -⟩
          have m4 := m3.news (.cells #[.int .i64 s.k, .int .i64 (knM s.mv), .int .i64 (phM s.mv), .int .i64 (cpM s.mv), .int .i64 s.ms, .int .i64 s.bs] 39)
          have HM4 := hide m4
          obtain ⟨x3, x4⟩ := m4.x
          have hstp := hide m4.step
          clear hsta m3 m4 x1 x2 a0
          go_wp2_with fail
          refine hstp.out.mono ?_
          rintro _ w5 ⟨rfl, m5⟩
          obtain ⟨x5, x6⟩ := m5.x
          have hst2 := hide m5.state
          clear hstp x3 x4 m5 HM4
          go_wp2_with fail
          refine hst2.out.mono ?_
          rintro _ w6 ⟨rfl, m6, -⟩
          have hh := m6.here
          have c0 : ∀ i v, (#[Value.int .i64 s.k, .int .i64 (knM s.mv), .int .i64 (phM s.mv), .int .i64 (cpM s.mv), .int .i64 s.ms, .int .i64 s.bs])[i]? = some v → w6.cell? ⟨w3.heap.size, i, none⟩ = some v := fun i v hv => by simp only [World.cell?, hh]; exact hv
          have c1 := c0 1 _ rfl
          have c4 := c0 4 _ rfl
          have l5 : w3.heap.size < w6.heap.size := (Array.getElem?_eq_some_iff.1 hh).1
          have ln : ¬ w3.heap.size = w6.heap.size := by omega
          have b0 := (m6.below.cell (p := A.add (i * 5)) (by simpa [addB] using hA)).trans Ha0.out
          have hA6 : A.block < w6.heap.size := by have := m6.below.size; omega
          have next := hide (show ∀ ob, ∃ (i' g : Nat) (rs : Nat → Int) (s : TS) (F : List Nat), i' ≤ ss.length ∧ Value.int .i64 ((i : Int) + 1) = .int .i64 (i' : Int) ∧ Hid (Mid tab3 (w.alloc (.cells #[.int .i64 e, .int .i64 b, .int .i64 ch, .int .i64 lg] 23)) (w6.alloc ob) bk g t ⟨e, b, ch, lg⟩ rs s F) from fun ob => by
            obtain ⟨_, _, _, g', rs', A', M', _⟩ := m6
            exact ⟨i + 1, g', rs', s.step.2, A', by omega, by simp, M'.later ((Below.refl _ w6).alloc (Nat.le_refl _) ob)⟩)
          have b1 : ∀ ob, (w6.alloc ob).cell? (A.add (i * 5)) = some (.int .i64 6) := fun ob => (((Below.refl _ w6).alloc (Nat.le_refl _) ob).cell (p := A.add (i * 5)) (by simpa [addB] using hA6)).trans b0
          have hwn := wrap_ne s.ms
          clear hst2 x5 x6 m6 hh c0 b0
          generalize s.step.2.ms = ms' at *
          generalize s.step.2.k = k' at *
          generalize s.step.1 = r at *
          generalize knM s.mv = kn at *
          have hmw : IntKind.i64.wrap (s.ms + 1) = wrap64 (s.ms + 1) := wrap_eq _
          generalize wrap64 (s.ms + 1) = mw at *
          have z2 : (s.ms == mw) = false := by simpa using hwn
          clear hwn
          rcases hcn with ⟨rfl, rfl, rfl⟩ | ⟨hkn, rfl, rfl, rfl⟩ | ⟨hkn, hr, rfl⟩
          · go_wp2
            exact ⟨next.out _, by show ss.length - ((i : Int) + 1).toNat < ss.length - (i : Int).toNat; omega⟩
          · have z1 : (k' == 0) = false := by simpa using hkn
            clear hkn
            go_wp2
            exact ⟨next.out _, by show ss.length - ((i : Int) + 1).toNat < ss.length - (i : Int).toNat; omega⟩
          · have z1 : (kn == 0) = false := by simpa using hkn
            clear hkn
            rcases hr with rfl | rfl | rfl
            all_goals
              go_wp2
              exact ⟨next.out _, by show ss.length - ((i : Int) + 1).toNat < ss.length - (i : Int).toNat; omega⟩
        have z6 : (xk == 6) = false := by simpa using h6
        clear h6
        have hstp := hide (step_any tab3 tab3_works tab3_apps tab3_goes wr bk g t _ rs s F M3.law xk xa xl xn xv xcs (StepsAt.step (x := ⟨xk, xa, xl, xn, xv, xcs⟩) hcs M3).1 (StepsAt.step (x := ⟨xk, xa, xl, xn, xv, xcs⟩) hcs M3).2)
        obtain ⟨ya, yc, rfl⟩ : ∃ ya yc, xv = .slice ya xcs.length yc := by obtain ⟨p, q, h, _⟩ := hcs; exact ⟨p, q, h⟩
        clear hst hx hcs M3
        go_wp2_with fail
        refine hstp.out.mono ?_
        rintro _ w4 hpost
        obtain ⟨rfl, g', rs', s', F', M4, -⟩ := HM.out.next hpost
        have b0 := (M4.below.cell (p := A.add (i * 5)) (by simpa [addB] using hA)).trans Ha0.out
        have HM4 := hide M4
        have hrt := hide (counted_law M4.law)
        clear hpost a0 a1 a2 a3 a4 hstp M4
        by_cases h8 : xk = 8
        · subst h8
          go_wp2_with fail
          refine hrt.out.mono ?_
          rintro _ w5 ⟨rfl, hb5⟩
          have next := hide (show ∃ (i' g : Nat) (rs : Nat → Int) (s : TS) (F : List Nat), i' ≤ ss.length ∧ Value.int .i64 ((i : Int) + 1) = .int .i64 (i' : Int) ∧ Hid (Mid tab3 (w.alloc (.cells #[.int .i64 e, .int .i64 b, .int .i64 ch, .int .i64 lg] 23)) w5 bk g t ⟨e, b, ch, lg⟩ rs s F) from ⟨i + 1, g', rs', s', F', by omega, by simp, HM4.out.later hb5⟩)
          clear hb5 hrt b0
          go_wp2
          exact ⟨next.out, by show ss.length - ((i : Int) + 1).toNat < ss.length - (i : Int).toNat; omega⟩
        · have z8 : (xk == 8) = false := by simpa using h8
          have next := hide (show ∃ (i' g : Nat) (rs : Nat → Int) (s : TS) (F : List Nat), i' ≤ ss.length ∧ Value.int .i64 ((i : Int) + 1) = .int .i64 (i' : Int) ∧ Hid (Mid tab3 (w.alloc (.cells #[.int .i64 e, .int .i64 b, .int .i64 ch, .int .i64 lg] 23)) w4 bk g t ⟨e, b, ch, lg⟩ rs s F) from ⟨i + 1, g', rs', s', F', by omega, by simp, HM4⟩)
          clear hrt h8
          go_wp2
          exact ⟨next.out, by show ss.length - ((i : Int) + 1).toNat < ss.length - (i : Int).toNat; omega⟩
      · obtain rfl : i = ss.length := by omega
        have hrt := hide (counted_law HM.out.law)
        go_wp2_with fail
        refine hrt.out.mono ?_
        rintro _ w5 ⟨rfl, hb5⟩
        have fin := hide (HB1.out.trans ((HM.out.later hb5).below.mono HB1.out.size))
        clear hb5 hrt
        go_wp2
        go_ret
        exact ⟨rfl, fin.out⟩
  · have hcall := hide (opened_no tab3 tab3_news cf (w.alloc (.cells #[.int .i64 cf.e, .int .i64 cf.b, .int .i64 cf.c, .int .i64 cf.l] 23)) hcf)
    obtain ⟨va, vc, rfl, _, _⟩ := hs
    obtain ⟨e, b, ch, lg⟩ := cf
    clear hB1
    go_enter Tryz.func6, Tryz.ntmps6
    go_wp2_with fail
    refine hcall.out.mono ?_
    rintro _ w2 ⟨rfl, hb2⟩
    have fin := hide (HB1.out.trans (hb2.mono HB1.out.size))
    clear hcall hb2
    go_wp2
    go_ret
    exact ⟨rfl, fin.out⟩

end Go.Proofs.YtglbamalagacgaaGreat

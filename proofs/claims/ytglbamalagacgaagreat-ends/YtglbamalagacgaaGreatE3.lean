import Derived.Test.YtglbamalagacgaaGreatE2
import Derived.BigQuiet
namespace Go.Proofs.YtglbamalagacgaaGreat
open Go.RowKit Go.Shelf

attribute [local go_sem] Oper.semAt_some

abbrev tab0 : TabC := tabI Inv0
theorem tab0_news : tab0.News := tabI_news fun cf _ => inv0_new cf
theorem tab0_works : tab0.Works := tabI_works fun _ _ _ _ _ _ h => h.apply _
theorem tab0_apps : tab0.Apps := tabI_apps fun _ _ cs _ h => h.apply cs
theorem tab0_goes : tab0.Goes := tabI_goes (fun _ _ _ h => h.same rfl) (fun _ _ k _ h => h.move k) (fun _ _ _ h => h.step) (fun _ _ _ h => h.abort)

set_option maxHeartbeats 4000000 in
set_option maxRecDepth 4000 in
theorem ends_any (cf : Cfg) (v v2 : Value) (kt : Int) (ss ss2 : List Stp) (w : World) (hs : StepsAt w v ss) (hs2 : StepsAt w v2 ss2) :
    Calls Tryz.prog 10 #[cfgV cf, v, .int .i64 kt, v2] w fun r w' => r = .returned (.bool true) ∧ Below w.heap.size w w' := by
  have hB1 : Below w.heap.size w (w.alloc (.cells #[.int .i64 cf.e, .int .i64 cf.b, .int .i64 cf.c, .int .i64 cf.l] 23)) := (Below.refl _ w).alloc (Nat.le_refl _) _
  have HB1 := hide hB1
  by_cases hcf : isCfg cf
  · have hcall := hide (opened_yes tab0 tab0_news cf (w.alloc (.cells #[.int .i64 cf.e, .int .i64 cf.b, .int .i64 cf.c, .int .i64 cf.l] 23)) hcf)
    have Hs := hide (hs.later hB1)
    have Hs2 := hide (hs2.later hB1)
    obtain ⟨va, vc, rfl, hml, _⟩ := hs
    obtain ⟨va2, vc2, rfl, hml2, _⟩ := hs2
    have d5 : 1 ≤ cf.c := hcf.2.2.2.2.1
    have d6 : cf.c ≤ 8 := hcf.2.2.2.2.2.1
    have d7 : 1 ≤ cf.l := hcf.2.2.2.2.2.2.1
    have d8 : cf.l ≤ 16 := hcf.2.2.2.2.2.2.2
    obtain ⟨e, b, ch, lg⟩ := cf
    simp only at d5 d6 d7 d8
    unfold maxLen at hml hml2
    clear hB1
    go_enter Tryz.func10, Tryz.ntmps10
    go_wp2_with fail
    refine hcall.out.mono ?_
    rintro _ w2 ⟨bk, g, t, s, F, rfl, hL, hb2, h1, h2, h3, hct⟩
    have hM : Mid tab0 (w.alloc (.cells #[.int .i64 e, .int .i64 b, .int .i64 ch, .int .i64 lg] 23)) w2 bk g t ⟨e, b, ch, lg⟩ (fun _ => 0) s F := ⟨hL, hb2, h1, h2, h3⟩
    have HM := hide hM
    obtain ⟨s, j⟩ := s
    have hct' : j = 0 := hct
    clear hM hL hb2 h1 h2 h3 hcall hct
    go_wp2
    go_loopw [11] (fun sl wr => ∃ (i : Nat) (g : Nat) (rs : Nat → Int) (s : TS) (j : Nat) (F : List Nat), i ≤ ss.length ∧ sl = .int .i64 (i : Int) ∧ j ≤ i ∧ Hid (Mid tab0 (w.alloc (.cells #[.int .i64 e, .int .i64 b, .int .i64 ch, .int .i64 lg] 23)) wr bk g t ⟨e, b, ch, lg⟩ rs (s, j) F)) (fun s _ => ss.length - (intOf s).toNat)
    case atStart => exact ⟨0, g, _, s, j, F, Nat.zero_le _, rfl, by omega, HM⟩
    case round =>
      obtain ⟨i, g, rs, s, j, F, hi, rfl, hji, HM⟩ := hrel
      by_cases hlt : i < ss.length
      · obtain ⟨x, hx⟩ : ∃ x, ss[i]? = some x := ⟨_, List.getElem?_eq_getElem hlt⟩
        obtain ⟨va', vc', hve, _, hst⟩ := Hs.out
        obtain ⟨A, hA0, hA, hcs, a0, a1, a2, a3, a4⟩ := hst i x hx
        cases hve
        subst hA0
        have hk : ∀ j, (⟨(A.add (i * 5)).block, (A.add (i * 5)).off + j, none⟩ : Addr).block < (w.alloc (.cells #[.int .i64 e, .int .i64 b, .int .i64 ch, .int .i64 lg] 23)).heap.size := fun j => by simpa [addB] using hA
        obtain ⟨xk, xa, xl, xn, xv, xcs⟩ := x
        simp only at hcs a0 a1 a2 a3 a4
        have j0 : (0 : Int) ≤ (i : Int) := by omega
        have j1 : (i : Int) < (ss.length : Int) := by omega
        have hwr : IntKind.i64.wrap ((i : Int) + 1) = (i : Int) + 1 := by rw [IntKind.wrap_i64]; omega
        have M3 := HM.out
        replace a0 := (M3.below.cell (p := A.add (i * 5)) (by simpa [addB] using hA)).trans a0
        replace a1 := (M3.below.cell (p := ⟨(A.add (i * 5)).block, (A.add (i * 5)).off + 1, none⟩) (hk 1)).trans a1
        replace a2 := (M3.below.cell (p := ⟨(A.add (i * 5)).block, (A.add (i * 5)).off + 2, none⟩) (hk 2)).trans a2
        replace a3 := (M3.below.cell (p := ⟨(A.add (i * 5)).block, (A.add (i * 5)).off + 3, none⟩) (hk 3)).trans a3
        replace a4 := (M3.below.cell (p := ⟨(A.add (i * 5)).block, (A.add (i * 5)).off + 4, none⟩) (hk 4)).trans a4
        have hstp := hide (step_any tab0 tab0_works tab0_apps tab0_goes wr bk g t _ rs (s, j) F M3.law xk xa xl xn xv xcs (StepsAt.step (x := ⟨xk, xa, xl, xn, xv, xcs⟩) hcs M3).1 (StepsAt.step (x := ⟨xk, xa, xl, xn, xv, xcs⟩) hcs M3).2)
        obtain ⟨ya, yc, rfl⟩ : ∃ ya yc, xv = .slice ya xcs.length yc := by obtain ⟨p, q, h, _⟩ := hcs; exact ⟨p, q, h⟩
        clear hst hx hcs M3
        go_wp2_with fail
        refine hstp.out.mono ?_
        rintro _ w4 hpost
        obtain ⟨rfl, g', rs', ⟨s', j'⟩, F', M4, hf⟩ := HM.out.next hpost
        have hj' : j' ≤ j + 1 := hf.2
        clear hpost a0 a1 a2 a3 a4 hstp hf
        have next := hide (show ∃ (i' g : Nat) (rs : Nat → Int) (s : TS) (j : Nat) (F : List Nat), i' ≤ ss.length ∧ Value.int .i64 ((i : Int) + 1) = .int .i64 (i' : Int) ∧ j ≤ i' ∧ Hid (Mid tab0 (w.alloc (.cells #[.int .i64 e, .int .i64 b, .int .i64 ch, .int .i64 lg] 23)) w4 bk g t ⟨e, b, ch, lg⟩ rs (s, j) F) from
          ⟨i + 1, g', rs', s', j', F', by omega, by simp, by omega, hide M4⟩)
        clear M4
        go_wp2
        exact ⟨next.out, by show ss.length - ((i : Int) + 1).toNat < ss.length - (i : Int).toNat; omega⟩
      · obtain rfl : i = ss.length := by omega
        obtain ⟨mS, hI⟩ := HM.out.ofI (HM.out.first (World.alloc_heap_new w _))
        obtain ⟨x1, x2⟩ := mS.x
        have hcall := hide mS.abort
        have hmv := abort_mv s
        have hbs := hI.abort (by omega)
        clear HM hI
        go_wp2_with fail
        refine hcall.out.mono ?_
        rintro _ w3 ⟨rfl, m3⟩
        clear hcall x1 x2 mS
        generalize s.abort.2 = s3 at *
        obtain ⟨x1, x2⟩ := m3.x
        have hcall := hide m3.state
        clear m3
        go_wp2_with fail
        refine hcall.out.mono ?_
        rintro _ w4 ⟨rfl, m4, -⟩
        clear hcall x1 x2
        have m5 := m4.news (.cells #[.int .i64 s3.k, .int .i64 (knM s3.mv), .int .i64 (phM s3.mv), .int .i64 (cpM s3.mv), .int .i64 s3.ms, .int .i64 s3.bs] 39)
        rw [hmv] at m5
        have hcall := hide m5.uses
        clear m4 m5
        go_wp2_with fail
        refine hcall.out.mono ?_
        rintro _ w6 ⟨rfl, m6, -⟩
        clear hcall
        obtain ⟨x1, x2⟩ := m6.x
        have hcall := hide m6.cells
        clear m6
        go_wp2_with fail
        refine hcall.out.mono ?_
        rintro _ w7 ⟨rfl, m7, -⟩
        have hfd : ∀ W : World, (Instr.field 49 (celV s3.act (tgtM none) (lgdM none) s3.b) 3).run Tryz.prog W = .ok (.int .i64 s3.b) W := fun _ => by kernel_rfl
        clear hcall x1 x2
        obtain ⟨x1, x2⟩ := m7.x
        have hcall := hide (m7.move kt)
        have hok := m7.1
        have hsl := m7.2.1
        have hsc := m7.2.2.1
        clear m7
        go_wp2_with fail
        refine hcall.out.mono ?_
        rintro _ w8 ⟨rfl, m8⟩
        clear hcall x1 x2 hfd
        have hun := hok.use_nn
        have huse : s3.use = s3.act := by unfold TS.use; rw [hmv]; show s3.act + 0 + 0 = _; omega
        have c0 : w8.cell? ⟨w4.heap.size, 0, none⟩ = some (.int .i64 s3.k) := by simp [World.cell?, m8.here]
        have c5 : w8.cell? ⟨w4.heap.size, 5, none⟩ = some (.int .i64 s3.bs) := by simp [World.cell?, m8.here]
        have l8 : w4.heap.size < w8.heap.size := (Array.getElem?_eq_some_iff.1 m8.here).1
        have fin := hide (HB1.out.trans (m8.below.mono HB1.out.size))
        rcases move_cases s3 kt hmv with ⟨e1, h1⟩ | ⟨e1, h1, h2, h3⟩ | ⟨e1, h1, h2, h3⟩ | e1
        · rw [e1] at m8 ⊢
          clear m8
          by_cases h2 : kt < 1
          · have p1 : decide (1 ≤ kt) = false := decide_eq_false (by omega)
            clear hun hok
            go_wp2
            go_ret
            exact ⟨rfl, fin.out⟩
          · have p1 : decide (1 ≤ kt) = true := decide_eq_true (by omega)
            have p2 : decide (kt ≤ 3) = false := decide_eq_false (by omega)
            clear hun hok
            go_wp2
            go_ret
            exact ⟨rfl, fin.out⟩
        · rw [e1] at m8 ⊢
          clear m8
          have p1 : decide (1 ≤ kt) = true := decide_eq_true (by omega)
          have p2 : decide (kt ≤ 3) = true := decide_eq_true (by omega)
          clear hun hok
          subst h3
          go_wp2
          go_ret
          exact ⟨rfl, fin.out⟩
        · rw [e1] at m8 ⊢
          clear m8
          have p1 : decide (1 ≤ kt) = true := decide_eq_true (by omega)
          have p2 : decide (kt ≤ 3) = true := decide_eq_true (by omega)
          have p3 : wrap64 (s3.act + 1) = s3.act + 1 := wrap_in _ (by omega)
          have p4 : decide (s3.b < s3.act + 1) = true := decide_eq_true (by omega)
          clear hun hok
          go_wp2
          go_ret
          exact ⟨rfl, fin.out⟩
        · rw [e1] at m8 ⊢
          have hlen := ok_len hok.sorted hok.ok
          have hcnt := hide (m8.later (Below.refl _ w8).drew).count
          have k3 : w8.cell? ⟨w.heap.size, 3, none⟩ = some (.int .i64 lg) := (m8.below.cell (p := ⟨w.heap.size, 3, none⟩) (by simp)).trans (by simp)
          have l3 : w.heap.size < w8.heap.size := by have := m8.below.size; simp at this; omega
          have HP := hide (show (s3.at (mv0 kt)).mv = some (mv0 kt) ∧ (s3.at (mv0 kt)).bs = s3.bs ∧ phi (s3.at (mv0 kt)) (mv0 kt) + ((0 : Nat) : Int) + 2 ≤ (s3.xs.length : Int) + lg + 3 from ⟨rfl, rfl, by have := phi_start s3 kt; rw [hsl] at this; omega⟩)
          have hB : wrap64 (s3.bs + 1) = s3.bs + 1 := wrap_in _ (by have := mvN_nn s3.mv; omega)
          have HB := hide hB
          have M8 := hide m8
          have hw1 : wrap64 ((s3.xs.length : Int) + lg) = (s3.xs.length : Int) + lg := wrap_in _ (by omega)
          have hw2 : wrap64 ((s3.xs.length : Int) + lg + 3) = (s3.xs.length : Int) + lg + 3 := wrap_in _ (by omega)
          clear m8 c0 c5 hun hok hB hbs
          go_wp2
          go_region_held3 (fun w' => w'.cell? ⟨w.heap.size, 3, none⟩ = some (.int .i64 lg)) (go_keep)
            (first | (go_at_call 30; refine hcnt.out.mono ?_; rintro _ w9 ⟨rfl, hb9⟩; (have hB9 : Below w8.heap.size w8 w9 := (Below.refl _ w8).drew.trans hb9); (have k9 : ∀ o, w9.cell? ⟨w.heap.size, o, none⟩ = w8.cell? ⟨w.heap.size, o, none⟩ := fun o => hB9.cell (p := ⟨w.heap.size, o, none⟩) l3)))
          have M9 := hide (M8.out.later hB9)
          have HB9 := hide hB9
          clear k9 k3 hcnt M8 hb9 hB9 fin
          go_wp2
          go_loopw [18, 19] (fun s18 s19 wr => ∃ (i a : Nat) (s : TS) (m : Mv), s18 = .int .i64 (a : Int) ∧ s19 = .int .i64 (i : Int) ∧ a ≤ ss2.length ∧ Hid (s.mv = some m ∧ s.bs = s3.bs ∧ phi s m + (i : Int) + 2 ≤ (s3.xs.length : Int) + lg + 3) ∧ Hid (MidS (w.alloc (.cells #[.int .i64 e, .int .i64 b, .int .i64 ch, .int .i64 lg] 23)) wr bk t ⟨e, b, ch, lg⟩ s w4.heap.size (.cells #[.int .i64 s3.k, .int .i64 (knM none), .int .i64 (phM none), .int .i64 (cpM none), .int .i64 s3.ms, .int .i64 s3.bs] 39))) (fun _ s19 _ => s3.xs.length + lg.toNat + 3 - (intOf s19).toNat)
          case atStart => exact ⟨0, 0, _, _, rfl, rfl, Nat.zero_le _, HP, M9⟩
          case round =>
            obtain ⟨i, a, s, m, rfl, rfl, ha, HP, M⟩ := hrel
            have hphi := phi_pos s m M.out.1
            have hilt : (i : Int) < (s3.xs.length : Int) + lg + 3 := by have := HP.out.2.2; omega
            have haft := step_aft M.out.1 HP.out.1
            obtain ⟨x1, x2⟩ := M.out.x
            have hcall := hide M.out.step
            go_wp2_with fail
            refine hcall.out.mono ?_
            rintro _ w10 ⟨rfl, m10⟩
            clear hcall x1 x2
            have fin := hide (HB1.out.trans (m10.below.mono HB1.out.size))
            rcases haft with hr | ⟨hr, m', hA⟩
            · generalize s.step.1 = r at *
              clear m10 hphi
              rcases hr with rfl | rfl
              · go_wp2
                go_ret
                exact ⟨rfl, fin.out⟩
              · go_wp2
                go_ret
                exact ⟨rfl, fin.out⟩
            · have HA := hide hA
              have hmv' : s.step.2.mv = some m' := by rw [hA.eq]; rfl
              have hbs' : s.step.2.bs = s3.bs := by rw [hA.eq]; exact HP.out.2.1
              have hB' : wrap64 (s.step.2.bs + 1) = s.step.2.bs + 1 := by rw [hbs']; exact HB.out
              have hwk : (tabI (EndI s.step.2.bs m'.k m'.ph (endN s.step.2 m'))).Works := tabI_works fun s j a l n _ h => h.next hB' a l n
              obtain ⟨g1, rs1, A1, M1, K1⟩ := m10.toI (EndI.start hmv')
              have HM1 := hide (And.intro M1 K1)
              have Hbs' := hide hbs'
              have Hlim := hide (And.intro m10.2.1 M.out.2.1)
              have hsc' : s.ch = ch := M.out.2.2.1
              have Hsc := hide hsc'
              have Hwk := hide hwk
              generalize s.step.1 = r at *
              generalize s.step.2 = s' at *
              clear m10 hphi hA hmv' hbs' hB' hwk M1 K1 hsc'
              have k2 : w10.cell? ⟨w.heap.size, 2, none⟩ = some (.int .i64 ch) := (HM1.out.1.below.cell (p := ⟨w.heap.size, 2, none⟩) (by simp)).trans (by simp)
              have l2 : w.heap.size < w10.heap.size := by have := HM1.out.1.below.size; simp at this; omega
              rcases hr with rfl | rfl
              all_goals
                go_wp2
                go_loopw [18, 21] (fun s18 s21 wr => ∃ (a k : Nat) (g : Nat) (rs : Nat → Int) (s2 : TS) (j : Nat) (A : List Nat), s18 = .int .i64 (a : Int) ∧ s21 = .int .i64 (k : Int) ∧ a ≤ ss2.length ∧ 1 ≤ k ∧ (k : Int) ≤ ch ∧ j + 1 ≤ k ∧ Hid (Mid (tabI (EndI s'.bs m'.k m'.ph (endN s' m'))) (w.alloc (.cells #[.int .i64 e, .int .i64 b, .int .i64 ch, .int .i64 lg] 23)) wr bk g t ⟨e, b, ch, lg⟩ rs (s2, j) A ∧ Kpt wr bk g A w4.heap.size (.cells #[.int .i64 s3.k, .int .i64 (knM none), .int .i64 (phM none), .int .i64 (cpM none), .int .i64 s3.ms, .int .i64 s3.bs] 39))) (fun _ s21 _ => ch.toNat - (intOf s21).toNat)
                case atStart => exact ⟨a, 1, g1, rs1, s', 0, A1, rfl, rfl, ha, by omega, by omega, by omega, HM1⟩
                case round =>
                  obtain ⟨a, k, g, rs, s2, j, A, rfl, rfl, ha, hk1, hkc, hjk, HM⟩ := hrel
                  have k2 : wr.cell? ⟨w.heap.size, 2, none⟩ = some (.int .i64 ch) := (HM.out.1.below.cell (p := ⟨w.heap.size, 2, none⟩) (by simp)).trans (by simp)
                  have l2 : w.heap.size < wr.heap.size := by have := HM.out.1.below.size; simp at this; omega
                  by_cases hin : (k : Int) < ch ∧ a < ss2.length
                  · obtain ⟨hkl, hal⟩ := hin
                    obtain ⟨x, hx⟩ : ∃ x, ss2[a]? = some x := ⟨_, List.getElem?_eq_getElem hal⟩
                    obtain ⟨va', vc', hve, _, hst⟩ := Hs2.out
                    obtain ⟨Ad, hA0, hAd, hcs, a0, a1, a2, a3, a4⟩ := hst a x hx
                    cases hve
                    subst hA0
                    have hk : ∀ j, (⟨(Ad.add (a * 5)).block, (Ad.add (a * 5)).off + j, none⟩ : Addr).block < (w.alloc (.cells #[.int .i64 e, .int .i64 b, .int .i64 ch, .int .i64 lg] 23)).heap.size := fun j => by simpa [addB] using hAd
                    obtain ⟨xk, xa, xl, xn, xv, xcs⟩ := x
                    simp only at hcs a0 a1 a2 a3 a4
                    have j0 : (0 : Int) ≤ (a : Int) := by omega
                    have j1 : (a : Int) < (ss2.length : Int) := by omega
                    have hwr : IntKind.i64.wrap ((a : Int) + 1) = (a : Int) + 1 := by rw [IntKind.wrap_i64]; omega
                    have hwk1 : IntKind.i64.wrap ((k : Int) + 1) = (k : Int) + 1 := by rw [IntKind.wrap_i64]; omega
                    have hbl := HM.out.1.below
                    replace a0 := (hbl.cell (p := Ad.add (a * 5)) (by simpa [addB] using hAd)).trans a0
                    replace a1 := (hbl.cell (p := ⟨(Ad.add (a * 5)).block, (Ad.add (a * 5)).off + 1, none⟩) (hk 1)).trans a1
                    replace a2 := (hbl.cell (p := ⟨(Ad.add (a * 5)).block, (Ad.add (a * 5)).off + 2, none⟩) (hk 2)).trans a2
                    replace a3 := (hbl.cell (p := ⟨(Ad.add (a * 5)).block, (Ad.add (a * 5)).off + 3, none⟩) (hk 3)).trans a3
                    replace a4 := (hbl.cell (p := ⟨(Ad.add (a * 5)).block, (Ad.add (a * 5)).off + 4, none⟩) (hk 4)).trans a4
                    have hBA : Below wr.heap.size wr (wr.alloc (.cells #[.int .i64 xk, .int .i64 xa, .int .i64 xl, .int .i64 xn, xv] 35)) := (Below.refl _ wr).alloc (Nat.le_refl _) _
                    have MA := HM.out.1.later hBA
                    have KA := HM.out.2.later hBA
                    have Hcs := hide (hcs.later MA.below)
                    clear hst hx hcs hbl hBA hk
                    by_cases q1 : xk = 1
                    · subst q1
                      have hstp := hide (step12_any (tabI (EndI s'.bs m'.k m'.ph (endN s' m'))) Hwk.out _ bk g t _ rs (s2, j) A MA.law 1 xa xl xn (by omega) xv xcs Hcs.out)
                      obtain ⟨ya, yc, rfl⟩ : ∃ ya yc, xv = .slice ya xcs.length yc := by obtain ⟨p, q, h, _⟩ := Hcs.out; exact ⟨p, q, h⟩
                      have HMA := hide (And.intro MA KA)
                      clear MA KA
                      go_wp2_with fail
                      refine hstp.out.mono ?_
                      rintro _ w12 hpost
                      obtain ⟨rfl, g', rs', ⟨s4, j4⟩, F4, M4, K4, hf⟩ := HMA.out.1.nextK HMA.out.2 hpost
                      have hj4 : j4 ≤ j + 1 := hf.2
                      clear hpost a0 a1 a2 a3 a4 hstp hf
                      have next := hide (show ∃ (a' k' : Nat) (g : Nat) (rs : Nat → Int) (s2 : TS) (j : Nat) (A : List Nat), Value.int .i64 ((a : Int) + 1) = .int .i64 (a' : Int) ∧ Value.int .i64 ((k : Int) + 1) = .int .i64 (k' : Int) ∧ a' ≤ ss2.length ∧ 1 ≤ k' ∧ (k' : Int) ≤ ch ∧ j + 1 ≤ k' ∧ Hid (Mid (tabI (EndI s'.bs m'.k m'.ph (endN s' m'))) (w.alloc (.cells #[.int .i64 e, .int .i64 b, .int .i64 ch, .int .i64 lg] 23)) w12 bk g t ⟨e, b, ch, lg⟩ rs (s2, j) A ∧ Kpt w12 bk g A w4.heap.size (.cells #[.int .i64 s3.k, .int .i64 (knM none), .int .i64 (phM none), .int .i64 (cpM none), .int .i64 s3.ms, .int .i64 s3.bs] 39)) from ⟨a + 1, k + 1, g', rs', s4, j4, F4, by simp, by simp, by omega, by omega, by omega, by omega, hide (And.intro M4 K4)⟩)
                      clear M4 K4
                      go_wp2
                      exact ⟨next.out, by show ch.toNat - ((k : Int) + 1).toNat < ch.toNat - (k : Int).toNat; omega⟩
                    by_cases q2 : xk = 2
                    · subst q2
                      have hstp := hide (step12_any (tabI (EndI s'.bs m'.k m'.ph (endN s' m'))) Hwk.out _ bk g t _ rs (s2, j) A MA.law 2 xa xl xn (by omega) xv xcs Hcs.out)
                      obtain ⟨ya, yc, rfl⟩ : ∃ ya yc, xv = .slice ya xcs.length yc := by obtain ⟨p, q, h, _⟩ := Hcs.out; exact ⟨p, q, h⟩
                      have HMA := hide (And.intro MA KA)
                      clear MA KA
                      go_wp2_with fail
                      refine hstp.out.mono ?_
                      rintro _ w12 hpost
                      obtain ⟨rfl, g', rs', ⟨s4, j4⟩, F4, M4, K4, hf⟩ := HMA.out.1.nextK HMA.out.2 hpost
                      have hj4 : j4 ≤ j + 1 := hf.2
                      clear hpost a0 a1 a2 a3 a4 hstp hf
                      have next := hide (show ∃ (a' k' : Nat) (g : Nat) (rs : Nat → Int) (s2 : TS) (j : Nat) (A : List Nat), Value.int .i64 ((a : Int) + 1) = .int .i64 (a' : Int) ∧ Value.int .i64 ((k : Int) + 1) = .int .i64 (k' : Int) ∧ a' ≤ ss2.length ∧ 1 ≤ k' ∧ (k' : Int) ≤ ch ∧ j + 1 ≤ k' ∧ Hid (Mid (tabI (EndI s'.bs m'.k m'.ph (endN s' m'))) (w.alloc (.cells #[.int .i64 e, .int .i64 b, .int .i64 ch, .int .i64 lg] 23)) w12 bk g t ⟨e, b, ch, lg⟩ rs (s2, j) A ∧ Kpt w12 bk g A w4.heap.size (.cells #[.int .i64 s3.k, .int .i64 (knM none), .int .i64 (phM none), .int .i64 (cpM none), .int .i64 s3.ms, .int .i64 s3.bs] 39)) from ⟨a + 1, k + 1, g', rs', s4, j4, F4, by simp, by simp, by omega, by omega, by omega, by omega, hide (And.intro M4 K4)⟩)
                      clear M4 K4
                      go_wp2
                      exact ⟨next.out, by show ch.toNat - ((k : Int) + 1).toNat < ch.toNat - (k : Int).toNat; omega⟩
                    have z1 : (xk == 1) = false := by simpa using q1
                    have z2 : (xk == 2) = false := by simpa using q2
                    obtain ⟨ya, yc, rfl⟩ : ∃ ya yc, xv = .slice ya xcs.length yc := by obtain ⟨p, q, h, _⟩ := Hcs.out; exact ⟨p, q, h⟩
                    have next := hide (show ∃ (a' k' : Nat) (g : Nat) (rs : Nat → Int) (s2 : TS) (j : Nat) (A : List Nat), Value.int .i64 ((a : Int) + 1) = .int .i64 (a' : Int) ∧ Value.int .i64 ((k : Int) + 1) = .int .i64 (k' : Int) ∧ a' ≤ ss2.length ∧ 1 ≤ k' ∧ (k' : Int) ≤ ch ∧ j + 1 ≤ k' ∧ Hid (Mid (tabI (EndI s'.bs m'.k m'.ph (endN s' m'))) (w.alloc (.cells #[.int .i64 e, .int .i64 b, .int .i64 ch, .int .i64 lg] 23)) (wr.alloc (.cells #[.int .i64 xk, .int .i64 xa, .int .i64 xl, .int .i64 xn, .slice ya xcs.length yc] 35)) bk g t ⟨e, b, ch, lg⟩ rs (s2, j) A ∧ Kpt (wr.alloc (.cells #[.int .i64 xk, .int .i64 xa, .int .i64 xl, .int .i64 xn, .slice ya xcs.length yc] 35)) bk g A w4.heap.size (.cells #[.int .i64 s3.k, .int .i64 (knM none), .int .i64 (phM none), .int .i64 (cpM none), .int .i64 s3.ms, .int .i64 s3.bs] 39)) from ⟨a + 1, k + 1, g, rs, s2, j, A, by simp, by simp, by omega, by omega, by omega, by omega, hide (And.intro MA KA)⟩)
                    clear MA KA q1 q2
                    go_wp2
                    exact ⟨next.out, by show ch.toNat - ((k : Int) + 1).toNat < ch.toNat - (k : Int).toNat; omega⟩
                  · obtain ⟨m11, hE⟩ := HM.out.1.ofI HM.out.2
                    have hfin := EndI.fin m11.1 HA.out hE (by rw [Hsc.out]; omega) (m11.2.1.trans Hlim.out.2.symm)
                    obtain ⟨x1, x2⟩ := m11.x
                    have hcall := hide m11.state
                    have hcs : (k : Int) < ch ∧ ¬ (a : Int) < (ss2.length : Int) ∨ ¬ (k : Int) < ch := by omega
                    have hwi : IntKind.i64.wrap ((i : Int) + 1) = (i : Int) + 1 := by rw [IntKind.wrap_i64]; omega
                    clear hin m11 hE
                    rcases hcs with ⟨v1, v2⟩ | v1
                    all_goals
                      go_wp2_with fail
                      refine hcall.out.mono ?_
                      rintro _ w12 ⟨rfl, m12, -⟩
                      clear hcall x1 x2
                      have c5 : w12.cell? ⟨w4.heap.size, 5, none⟩ = some (.int .i64 s3.bs) := by simp [World.cell?, m12.here]
                      have l5 : w4.heap.size < w12.heap.size := (Array.getElem?_eq_some_iff.1 m12.here).1
                      rcases hfin with ⟨f1, f2⟩ | ⟨m2, f1, f2, f3⟩
                      · rw [HP.out.2.1] at f2
                        have fin := hide (HB1.out.trans (m12.below.mono HB1.out.size))
                        have hkn : knM none = 0 := rfl
                        have hdd : decide (s3.bs < s3.bs + 1) = true := decide_eq_true (by omega)
                        clear m12
                        go_wp2
                        go_ret
                        exact ⟨rfl, fin.out.alloc fin.out.size _⟩
                      · rw [HP.out.2.1] at f2
                        have next := hide (show ∀ ob, ∃ (i' a' : Nat) (s : TS) (m : Mv), Value.int .i64 ((a : Int)) = .int .i64 (a' : Int) ∧ Value.int .i64 ((i : Int) + 1) = .int .i64 (i' : Int) ∧ a' ≤ ss2.length ∧ Hid (s.mv = some m ∧ s.bs = s3.bs ∧ phi s m + (i' : Int) + 2 ≤ (s3.xs.length : Int) + lg + 3) ∧ Hid (MidS (w.alloc (.cells #[.int .i64 e, .int .i64 b, .int .i64 ch, .int .i64 lg] 23)) (w12.alloc ob) bk t ⟨e, b, ch, lg⟩ s w4.heap.size (.cells #[.int .i64 s3.k, .int .i64 (knM none), .int .i64 (phM none), .int .i64 (cpM none), .int .i64 s3.ms, .int .i64 s3.bs] 39)) from fun ob => ⟨i + 1, a, s2, m2, rfl, by simp, ha, hide ⟨f1, f2, by have := HP.out.2.2; omega⟩, hide (m12.later ((Below.refl _ w12).alloc (Nat.le_refl _) ob))⟩)
                        have hdd : decide (s3.bs < s3.bs) = false := decide_eq_false (by omega)
                        clear m12 f1 f3
                        go_wp2
                        exact ⟨next.out _, by show s3.xs.length + lg.toNat + 3 - ((i : Int) + 1).toNat < s3.xs.length + lg.toNat + 3 - (i : Int).toNat; omega⟩
  · have hcall := hide (opened_no tab0 tab0_news cf (w.alloc (.cells #[.int .i64 cf.e, .int .i64 cf.b, .int .i64 cf.c, .int .i64 cf.l] 23)) hcf)
    obtain ⟨va, vc, rfl, _, _⟩ := hs
    obtain ⟨va2, vc2, rfl, _, _⟩ := hs2
    obtain ⟨e, b, ch, lg⟩ := cf
    clear hB1
    go_enter Tryz.func10, Tryz.ntmps10
    go_wp2_with fail
    refine hcall.out.mono ?_
    rintro _ w2 ⟨rfl, hb2⟩
    have fin := hide (HB1.out.trans (hb2.mono HB1.out.size))
    clear hcall hb2
    go_wp2
    go_ret
    exact ⟨rfl, fin.out⟩

end Go.Proofs.YtglbamalagacgaaGreat

import Derived.Test.YtglbamalagacgaaGreatF2
import Derived.Test.YtglbamalagacgaaGreatL3
import Derived.Test.YtglbamalagacgaaGreatT4
namespace Go.Proofs.YtglbamalagacgaaGreat
open Go.RowKit Go.Shelf

attribute [local go_sem] Oper.semAt_some

theorem told_tab {w : World} {t : Nat} {s : TS} {A : List Nat} (h : tab3.T w t s A) (n : Nat) (hn : n ≤ 32) : Told w t s.xs n where
  look W a hB := by
    obtain ⟨_, e, pm, F, H, hT, rfl⟩ := tab3.kept (w' := W) h fun k hk => hB.block k (tab3.lt h k hk)
    exact lookup_any W t e s.xs F a (by simp [World.cell?, hT.blk]) hT.eng
  page W a l hB hp := by
    obtain ⟨_, e, pm, F, H, hT, rfl⟩ := tab3.kept (w' := W) h fun k hk => hB.block k (tab3.lt h k hk)
    exact page_any W t e s.xs F a l n (by simp [World.cell?, hT.blk]) hT.eng hp hn
theorem right_law {w : World} {bk g t : Nat} {cf : Cfg} {rs : Nat → Int} {s : TS} {A : List Nat} (h : Law tab3 w bk g t cf rs s A) (n : Nat) (h1 : 1 ≤ n) (hn : n ≤ 32) :
    Calls Tryz.prog 15 #[ptrV bk, .int .i64 (n : Int)] w fun r w' => r = .returned (.bool true) ∧ Below w.heap.size w w' :=
  right_any w bk g t cf rs s.xs n h1 hn h.book h.tie (tab3.sorted h.tab) (tab3.ok h.tab) (told_tab h.tab n hn)

set_option maxHeartbeats 2000000 in
set_option maxRecDepth 4000 in
theorem longest_any (cf : Cfg) (v : Value) (ss : List Stp) (n : Int) (w : World) (hs : StepsAt w v ss) :
    Calls Tryz.prog 5 #[cfgV cf, v, .int .i64 n] w fun r w' => r = .returned (.bool true) ∧ Below w.heap.size w w' := by
  have hB1 : Below w.heap.size w (w.alloc (.cells #[.int .i64 cf.e, .int .i64 cf.b, .int .i64 cf.c, .int .i64 cf.l] 23)) := (Below.refl _ w).alloc (Nat.le_refl _) _
  have HB1 := hide hB1
  by_cases hcf : isCfg cf
  · have hcall := hide (opened_yes tab3 tab3_news cf (w.alloc (.cells #[.int .i64 cf.e, .int .i64 cf.b, .int .i64 cf.c, .int .i64 cf.l] 23)) hcf)
    have Hs := hide (hs.later hB1)
    obtain ⟨va, vc, rfl, hml, _⟩ := hs
    obtain ⟨e, b, ch, lg⟩ := cf
    unfold maxLen at hml
    clear hB1
    go_enter Tryz.func5, Tryz.ntmps5
    go_wp2_with fail
    refine hcall.out.mono ?_
    rintro _ w2 ⟨bk, g, t, s, F, rfl, hL, hb2, h1, h2, h3, -⟩
    have hM : Mid tab3 (w.alloc (.cells #[.int .i64 e, .int .i64 b, .int .i64 ch, .int .i64 lg] 23)) w2 bk g t ⟨e, b, ch, lg⟩ (fun _ => 0) s F := ⟨hL, hb2, h1, h2, h3⟩
    have HM := hide hM
    clear hM hL hb2 h1 h2 h3 hcall
    have hcs : ∃ N : Nat, 1 ≤ N ∧ N ≤ 32 ∧ (n < 1 ∧ N = 3 ∨ 1 ≤ n ∧ 32 < n ∧ N = 3 ∨ 1 ≤ n ∧ n ≤ 32 ∧ n = N) := by
      by_cases q1 : n < 1
      · exact ⟨3, by omega, by omega, .inl ⟨q1, rfl⟩⟩
      by_cases q2 : 32 < n
      · exact ⟨3, by omega, by omega, .inr (.inl ⟨by omega, q2, rfl⟩)⟩
      · exact ⟨n.toNat, by omega, by omega, .inr (.inr ⟨by omega, by omega, by omega⟩)⟩
    obtain ⟨N, n1, n2, hcs⟩ := hcs
    have key := hide (fun (W : World) (g : Nat) (rs : Nat → Int) (s : TS) (F : List Nat) (h : Law tab3 W bk g t ⟨e, b, ch, lg⟩ rs s F) => right_law h N n1 n2)
    rcases hcs with ⟨q1, rfl⟩ | ⟨q1, q2, rfl⟩ | ⟨q1, q2, rfl⟩
    case' inl => have d1 : decide (n < 1) = true := decide_eq_true q1
    case' inr.inl => have d1 : decide (n < 1) = false := decide_eq_false (by omega)
    case' inr.inl => have d2 : decide (32 < n) = true := decide_eq_true q2
    case' inr.inr => have d1 : decide ((N : Int) < 1) = false := decide_eq_false (by omega)
    case' inr.inr => have d2 : decide (32 < (N : Int)) = false := decide_eq_false (by omega)
    all_goals
      clear q1
      go_wp2
      go_loopw [9] (fun sl wr => ∃ (i : Nat) (g : Nat) (rs : Nat → Int) (s : TS) (F : List Nat), i ≤ ss.length ∧ sl = .int .i64 (i : Int) ∧ Hid (Mid tab3 (w.alloc (.cells #[.int .i64 e, .int .i64 b, .int .i64 ch, .int .i64 lg] 23)) wr bk g t ⟨e, b, ch, lg⟩ rs s F)) (fun s _ => ss.length - (intOf s).toNat)
      case atStart => exact ⟨0, g, _, s, F, Nat.zero_le _, rfl, HM⟩
      case round =>
        obtain ⟨i, g, rs, s, F, hi, rfl, HM⟩ := hrel
        by_cases hlt : i < ss.length
        · obtain ⟨x, hx⟩ : ∃ x, ss[i]? = some x := ⟨_, List.getElem?_eq_getElem hlt⟩
          obtain ⟨va', vc', hve, _, hst⟩ := Hs.out
          obtain ⟨A, hA0, hA, hcs, a0, a1, a2, a3, a4⟩ := hst i x hx
          cases hve
          subst hA0
          have hk : ∀ j, (⟨(A.add (i * 5)).block, (A.add (i * 5)).off + j, none⟩ : Addr).block < (w.alloc (.cells #[.int .i64 e, .int .i64 b, .int .i64 ch, .int .i64 lg] 23)).heap.size := fun j => by simpa [addB] using hA
          obtain ⟨xk, xa, xl, xn, xv, xcs⟩ := x
          simp only at hcs a0 a1 a2 a3 a4
          have j0 : (0 : Int) ≤ (i : Int) := by omega
          have j1 : (i : Int) < (ss.length : Int) := by omega
          have hwr : IntKind.i64.wrap ((i : Int) + 1) = (i : Int) + 1 := by rw [IntKind.wrap_i64]; omega
          have M3 := HM.out
          have Ha0 := hide a0
          replace a0 := (M3.below.cell (p := A.add (i * 5)) (by simpa [addB] using hA)).trans a0
          replace a1 := (M3.below.cell (p := ⟨(A.add (i * 5)).block, (A.add (i * 5)).off + 1, none⟩) (hk 1)).trans a1
          replace a2 := (M3.below.cell (p := ⟨(A.add (i * 5)).block, (A.add (i * 5)).off + 2, none⟩) (hk 2)).trans a2
          replace a3 := (M3.below.cell (p := ⟨(A.add (i * 5)).block, (A.add (i * 5)).off + 3, none⟩) (hk 3)).trans a3
          replace a4 := (M3.below.cell (p := ⟨(A.add (i * 5)).block, (A.add (i * 5)).off + 4, none⟩) (hk 4)).trans a4
          have hstp := hide (step_any tab3 tab3_works tab3_apps tab3_goes wr bk g t _ rs s F M3.law xk xa xl xn xv xcs (StepsAt.step (x := ⟨xk, xa, xl, xn, xv, xcs⟩) hcs M3).1 (StepsAt.step (x := ⟨xk, xa, xl, xn, xv, xcs⟩) hcs M3).2)
          obtain ⟨ya, yc, rfl⟩ : ∃ ya yc, xv = .slice ya xcs.length yc := by obtain ⟨p, q, h, _⟩ := hcs; exact ⟨p, q, h⟩
          clear hst hx hcs M3
          go_wp2_with fail
          refine hstp.out.mono ?_
          rintro _ w4 hpost
          obtain ⟨rfl, g', rs', s', F', M4, -⟩ := HM.out.next hpost
          have b0 := (M4.below.cell (p := A.add (i * 5)) (by simpa [addB] using hA)).trans Ha0.out
          have HM4 := hide M4
          have hrt := hide (key.out w4 g' rs' s' F' M4.law)
          clear hpost a0 a1 a2 a3 a4 hstp M4
          by_cases h8 : xk = 8
          · subst h8
            go_wp2_with fail
            refine hrt.out.mono ?_
            rintro _ w5 ⟨rfl, hb5⟩
            have next := hide (show ∃ (i' g : Nat) (rs : Nat → Int) (s : TS) (F : List Nat), i' ≤ ss.length ∧ Value.int .i64 ((i : Int) + 1) = .int .i64 (i' : Int) ∧ Hid (Mid tab3 (w.alloc (.cells #[.int .i64 e, .int .i64 b, .int .i64 ch, .int .i64 lg] 23)) w5 bk g t ⟨e, b, ch, lg⟩ rs s F) from ⟨i + 1, g', rs', s', F', by omega, by simp, HM4.out.later hb5⟩)
            clear hb5 hrt b0
            go_wp2
            exact ⟨next.out, by show ss.length - ((i : Int) + 1).toNat < ss.length - (i : Int).toNat; omega⟩
          · have z8 : (xk == 8) = false := by simpa using h8
            have next := hide (show ∃ (i' g : Nat) (rs : Nat → Int) (s : TS) (F : List Nat), i' ≤ ss.length ∧ Value.int .i64 ((i : Int) + 1) = .int .i64 (i' : Int) ∧ Hid (Mid tab3 (w.alloc (.cells #[.int .i64 e, .int .i64 b, .int .i64 ch, .int .i64 lg] 23)) w4 bk g t ⟨e, b, ch, lg⟩ rs s F) from ⟨i + 1, g', rs', s', F', by omega, by simp, HM4⟩)
            clear hrt h8
            go_wp2
            exact ⟨next.out, by show ss.length - ((i : Int) + 1).toNat < ss.length - (i : Int).toNat; omega⟩
        · obtain rfl : i = ss.length := by omega
          have hrt := hide (key.out wr g rs s F HM.out.law)
          go_wp2_with fail
          refine hrt.out.mono ?_
          rintro _ w5 ⟨rfl, hb5⟩
          have fin := hide (HB1.out.trans ((HM.out.later hb5).below.mono HB1.out.size))
          clear hb5 hrt
          go_wp2
          go_ret
          exact ⟨rfl, fin.out⟩
  · have hcall := hide (opened_no tab3 tab3_news cf (w.alloc (.cells #[.int .i64 cf.e, .int .i64 cf.b, .int .i64 cf.c, .int .i64 cf.l] 23)) hcf)
    obtain ⟨va, vc, rfl, _, _⟩ := hs
    obtain ⟨e, b, ch, lg⟩ := cf
    clear hB1
    go_enter Tryz.func5, Tryz.ntmps5
    go_wp2_with fail
    refine hcall.out.mono ?_
    rintro _ w2 ⟨rfl, hb2⟩
    have fin := hide (HB1.out.trans (hb2.mono HB1.out.size))
    clear hcall hb2
    go_wp2
    go_ret
    exact ⟨rfl, fin.out⟩

end Go.Proofs.YtglbamalagacgaaGreat

import Derived.Test.YtglbamalagacgaaGreatY9
import Derived.BigRegion
import Derived.Deep.CutRange
namespace Go.Proofs.YtglbamalagacgaaGreat
open Go.RowKit Go.Shelf
attribute [local go_sem] Oper.semAt_some
theorem put_del {ys : List Ent} {a l n : Int} (hs : Sorted ys) : putE (delE ys a l) a l n = putE ys a l n :=
 sorted_ext (putE_sorted (delE_sorted hs)) (putE_sorted hs) fun b m => by
  rw [getE_put (delE_sorted hs), getE_put hs, getE_del hs]
  by_cases h : a = b /\ l = m
  ·rw [if_pos h, if_pos h]
  ·rw [if_neg h, if_neg h, if_neg h]
theorem catch_none {m : Mv} {xs : List Ent} {p : Int × Int} {lg : List (Int × Int)} (h : m.lg = p :: lg) (hg : getE xs p.1 p.2 = none) : m.catch xs = { m with lg := lg, ys := delE m.ys p.1 p.2 } := by
 unfold Mv.catch
 rw [h]
 show { m with lg := lg, ys := setE m.ys p.1 p.2 (orZ (getE xs p.1 p.2)) } = _
 rw [hg]
 rfl
theorem catch_some {m : Mv} {xs : List Ent} {p : Int × Int} {lg : List (Int × Int)} {n : Int} (h : m.lg = p :: lg) (hg : getE xs p.1 p.2 = some n) (hn : n ≠ 0) : m.catch xs = { m with lg := lg, ys := putE m.ys p.1 p.2 n } := by
 unfold Mv.catch
 rw [h]
 show { m with lg := lg, ys := setE m.ys p.1 p.2 (orZ (getE xs p.1 p.2)) } = _
 rw [hg]
 show { m with lg := lg, ys := setE m.ys p.1 p.2 n } = _
 unfold setE
 rw [if_neg hn]
theorem RowL.tail {w : World} {v : Value} {p : Int × Int} {lg : List (Int × Int)} (h : RowL w v (p :: lg)) : ∃ g off cap, v = .slice (some ⟨g, off, none⟩) (lg.length + 1) cap /\ g < w.heap.size /\ w.cell? ⟨g, off, none⟩ = some (.int .i64 p.1) /\ w.cell? ⟨g, off + 1, none⟩ = some (.int .i64 p.2) /\ lg.length + 1 <= cap /\ cap <= maxLen /\ RowL w (.slice (some ⟨g, off + 2, none⟩) lg.length (cap - 1)) lg := by
 rcases h with ⟨_, h⟩ | ⟨g, off, cap, cs, rfl, hg, h1, h2, h3, hr⟩
 ·cases h
 ·obtain ⟨c0, c1⟩ := hr 0 p rfl
  simp only [List.length_cons] at h1
  refine ⟨g, off, cap, rfl, (Array.getElem?_eq_some_iff.1 hg).1, by simpa [World.cell?, hg] using c0, by simpa [World.cell?, hg] using c1, h1, h3, .inr ⟨g, off + 2, cap - 1, cs, rfl, hg, by omega, by omega, by omega, fun i q hq => ?_⟩⟩
  obtain ⟨d0, d1⟩ := hr (i + 1) q (by simpa using hq)
  have e : off + 2 + i * 2 = off + (i + 1) * 2 := by omega
  rw [e]
  exact ⟨d0, d1⟩
structure CtI (s : TS) (m : Mv) : Prop where
 ok : MvOk s m
 ph : m.ph = 2
 lg : (m.lg.length : Int) <= s.lim
theorem CtI.next {s : TS} {m : Mv} (hs : s.Ok) (h : CtI s m) : CtI s (m.catch s.xs) := by
 refine ⟨h.ok.catch hs.ok h.ph, by unfold Mv.catch; split <;> exact h.ph, ?_⟩
 unfold Mv.catch
 split
 ·exact h.lg
 ·rename_i p lg hlg
  have := h.lg
  rw [hlg] at this
  simp at this ⊢
  omega
theorem ct_cons {s : TS} {m : Mv} {k : Nat} : ctRun s (k + 1) m = if (s.at m).over (s.at (m.catch s.xs)) then (4, s.back) else ctRun s k (m.catch s.xs) := rfl
theorem set4 (v0 v1 v2 v3 v4 v5 v6 v7 v8 v9 v10 v11 v12 v13 x : Value) : #[v0, v1, v2, v3, v4, v5, v6, v7, v8, v9, v10, v11, v12, v13].setIfInBounds 4 x = #[v0, v1, v2, v3, x, v5, v6, v7, v8, v9, v10, v11, v12, v13] := by simp
theorem set12 (v0 v1 v2 v3 v4 v5 v6 v7 v8 v9 v10 v11 v12 v13 x : Value) : #[v0, v1, v2, v3, v4, v5, v6, v7, v8, v9, v10, v11, v12, v13].setIfInBounds 12 x = #[v0, v1, v2, v3, v4, v5, v6, v7, v8, v9, v10, v11, x, v13] := by simp
theorem RefT.cuts {w : World} {y : Nat} {s : TS} {m : Mv} {c0 : Int} {vr vc vl : Value} {rl cl : List Ent} (h : RefT w y (s.at m) c0 vr vc vl rl cl) :
  RefT ((w.setCell ⟨y, 4, none⟩ (.int .i64 m.k)).setCell ⟨y, 5, none⟩ vc) y { s.at m with xs := m.ys, k := m.k } c0 vc vc vl cl cl /\ Only [y] w ((w.setCell ⟨y, 4, none⟩ (.int .i64 m.k)).setCell ⟨y, 5, none⟩ vc) := by
 have b1 := (setT h.blk 4 (.int .i64 m.k)).1
 rw [set4] at b1
 have c1 := (setT b1 5 vc).1
 rw [set5] at c1
 have ho := (onlyY w y 4 (.int .i64 m.k)).andY 5 vc
 have hk : ∀ v : Value, v.ownBlock ≠ some y -> ∀ g, v.ownBlock = some g -> g ∉ [y] := fun v hv g hg => by simp; exact fun e => hv (by rw [hg, e])
 exact ⟨⟨c1, h.cr.kept fun g hg => ho.block g (h.cr.lt g hg) (hk _ h.y2 g hg), h.cep, h.cr.kept fun g hg => ho.block g (h.cr.lt g hg) (hk _ h.y2 g hg), h.cep, h.lr.kept fun g hg => ho.block g (h.lr.lt g hg) (hk _ h.y3 g hg), h.y2, h.y2, h.y3, h.l2, h.l2⟩, ho⟩
theorem RefT.moved {w : World} {y : Nat} {s s' : TS} {c0 : Int} {vr : Value} {rl : List Ent} (h : RefT w y s c0 vr (.slice none 0 0) (.slice none 0 0) rl []) (hm : s.mv = none) (he : s' = { s with ms := wrap64 (s.ms + 1) }) : RefT (w.setCell ⟨y, 12, none⟩ (.int .i64 (wrap64 (s.ms + 1)))) y s' c0 vr (.slice none 0 0) (.slice none 0 0) rl [] /\ Only [y] w (w.setCell ⟨y, 12, none⟩ (.int .i64 (wrap64 (s.ms + 1)))) := by
 subst he
 have b1 := (setT h.blk 12 (.int .i64 (wrap64 (s.ms + 1)))).1
 rw [set12] at b1
 have ho := onlyY w y 12 (.int .i64 (wrap64 (s.ms + 1)))
 exact ⟨h.over (s' := { s with ms := wrap64 (s.ms + 1) }) rfl hm b1 ho, ho⟩
theorem setCell_sz (w : World) (a : Addr) (v : Value) : (w.setCell a v).heap.size = w.heap.size := by simp [World.setCell]
end Go.Proofs.YtglbamalagacgaaGreat

namespace Go.Proofs.YtglbamalagacgaaGreat
open Go.RowKit Go.Shelf
attribute [local go_sem] Oper.semAt_some
set_option maxRecDepth 8000 in
set_option maxHeartbeats 4000000 in
theorem step_r (w : World) (y : Nat) (s : TS) (A : List Nat) (hT : RT w y s A) (hs : s.Ok) :
  Calls Tryz.prog 68 #[ptrV y] w (RTurn w y A (.int .i64 s.step.1) s.step.2) := by
 have HT := hide hT
 obtain ⟨c0, vr, vc, vl, rl, cl, h, hA⟩ := hT
 have yl := h.lt
 have e6 := h.q6
 have e7 := h.q7
 unfold TS.step
 cases hm : s.mv with
 | none =>
  dsimp only
  rw [hm, show knM none = 0 from rfl] at e6
  have fin := hide (show RTurn w y A (.int .i64 0) s (.returned (.int .i64 0)) w from ⟨_, rfl, HT.out, NewF.refl _ _, Only.refl _ _⟩)
  clear hm h hA e7
  go_enter Tryz.func68, Tryz.ntmps68
  go_wp2
  go_ret
  exact fin.out
 | some m =>
  have hg := (hs.good).mv m hm
  rw [hm, show knM (some m) = m.k from rfl] at e6
  rw [hm, show phM (some m) = m.ph from rfl] at e7
  have d0 : (m.k == 0) = false := by have := hg.2.2.1; simp; omega
  dsimp only
  obtain ⟨hmo, hml⟩ := hs.mv m hm
  by_cases h1 : m.ph = 1
  ·rw [if_pos h1]
   have hc := hide (copies_r w y s m A HT.out hs hm h1)
   rw [h1] at e7
   generalize cpRun s (fromE s.xs m.ca m.cl) 0 m = R at *
   clear hm h hA hg hmo hml
   go_enter Tryz.func68, Tryz.ntmps68
   go_wp2_with fail
   refine hc.out.mono ?_
   rintro _ w2 ⟨A', rfl, p1, p2, p3⟩
   have fin := hide (show RTurn w y A (.int .i64 R.1) R.2 (.returned (.int .i64 R.1)) w2 from ⟨A', rfl, p1, p2, p3⟩)
   clear p1 p2 p3 hc
   go_wp2
   go_ret
   exact fin.out
  ·rw [if_neg h1]
   have h2 : m.ph = 2 := by have := hmo.ph; omega
   rw [h2] at e7
   have hch1 := hs.ch1
   have hch8 := hs.ch8
   obtain ⟨ch, hch⟩ : ∃ ch : Nat, s.ch = ch := ⟨s.ch.toNat, by omega⟩
   rw [hch] at hch1 hch8
   rw [show s.ch.toNat = ch by rw [hch]; rfl]
   obtain ⟨R, hR⟩ : ∃ R, ctRun s (min ch m.lg.length) m = R := ⟨_, rfl⟩
   rw [hR]
   have HCH := hide hch
   have HA0 := hide (show RAcc w A w y (s.at m) A from by rw [TS.at_same hm]; exact ⟨HT.out, NewF.refl _ _, Only.refl _ _⟩)
   have HI0 := hide (show CtI s m from ⟨hmo, h2, hml⟩)
   have HR0 := hide hR
   have HS := hide hs
   clear hm h hA hg hmo hml hR hch hs h1 h2
   go_enter Tryz.func68, Tryz.ntmps68
   go_wp2
   go_loopw [3] (fun s3 wr => ∃ (j : Nat) (m' : Mv) (A' : List Nat), j <= ch /\ s3 = .int .i64 (j : Int) /\ Hid (RAcc w A wr y (s.at m') A') /\ Hid (CtI s m') /\ Hid (ctRun s (min (ch - j) m'.lg.length) m' = R)) (fun s3 _ => ch - (intOf s3).toNat)
   case atStart => exact ⟨0, m, A, by omega, rfl, HA0, HI0, HR0⟩
   case round =>
    clear HA0 HI0 HR0
    obtain ⟨j, m', A', hj, rfl, HAC, HI, HR⟩ := hrel
    obtain ⟨c1, vr, vc, vl, rl, cl, h, hA'⟩ := HAC.out.rt
    have HH := hide h
    have yl := h.lt
    have e2 : wr.cell? ⟨y, 2, none⟩ = some (.int .i64 (ch : Int)) := by rw [h.q2, <- HCH.out]; rfl
    have e11 := h.q11
    have hlr : RowL wr vl m'.lg := h.lr
    have hwj : IntKind.i64.wrap ((j : Int) + 1) = (j : Int) + 1 := by rw [IntKind.wrap_i64]; omega
    cases hlg : m'.lg with
    | nil =>
     rw [hlg] at hlr
     obtain ⟨la, lc, hvl⟩ := hlr.shape
     have hvl : vl = .slice la 0 lc := hvl
     obtain ⟨ca, cc, hvc⟩ := h.cr.shape
     obtain ⟨ra, rc, hvr⟩ := h.rr.shape
     subst hvl
     subst hvc
     subst hvr
     have q6 : wr.cell? ⟨y, 6, none⟩ = some (.int .i64 m'.k) := h.q6
     have q4 := h.q4
     have q5 := h.q5
     have q8 := h.q8
     have qf := h.fz
     obtain ⟨hcut, hco⟩ := h.cuts
     obtain ⟨W1, hW1⟩ : ∃ W1, (wr.setCell ⟨y, 4, none⟩ (.int .i64 m'.k)).setCell ⟨y, 5, none⟩ (.slice ca cl.length cc) = W1 := ⟨_, rfl⟩
     rw [hW1] at hcut hco
     have hends := hide (ends_r W1 y _ _ _ _ _ _ _ hcut)
     have hr := HR.out
     rw [hlg, show min (ch - j) ([] : List (Int × Int)).length = 0 by simp] at hr
     unfold ctRun at hr
     rw [if_pos hlg] at hr
     have HR1 := hide hr
     have HCO := hide hco
     have HA' := hide hA'
     clear h hlr hlg hcut hco hr hA'
     by_cases hlt : j < ch
     case' pos => have hl1 : (j : Int) < (ch : Int) := by omega
     case' neg => have hl1 : decide ((j : Int) < (ch : Int)) = false := decide_eq_false (by omega)
     all_goals
      go_wp2_with fail
      refine hends.out.mono ?_
      rintro _ w2 ⟨rfl, h8, ho8⟩
      have r12 := h8.q12
      have rf := h8.fz
      have y2 := h8.lt
      have h9 := h8.moved (s' := s.cut m') rfl rfl
      have fin := hide (show RTurn w y A (.int .i64 R.1) R.2 (.returned (.int .i64 3)) (w2.setCell ⟨y, 12, none⟩ (.int .i64 (wrap64 (s.ms + 1)))) from by
       rw [<- HR1.out]
       have hac := HAC.out
       rw [HA'.out] at hac
       refine (hac.yOnly (Below.refl _ wr) ((HCO.out.trans ho8 fun x hx => .inl hx).trans h9.2 fun x hx => .inl hx) h9.1 fun k hk => ?_).fin
       rcases refA_mem.1 hk with h1 | h1 | h1 | h1
       ·exact .inl (refA_mem.2 (.inl h1))
       ·exact .inl (refA_mem.2 (.inr (.inr (.inl h1))))
       ·cases h1
       ·cases h1)
      clear h8 ho8 h9 hends
      go_wp2
      go_ret
      exact fin.out
    | cons p lg =>
     by_cases hlt : j < ch
     ·rw [hlg] at hlr
      obtain ⟨gl, off, cap, rfl, gz, p1c, p2c, cc1, cc2, htl⟩ := hlr.tail
      have hl1 : (j : Int) < (ch : Int) := by omega
      have dl : decide (0 < ((lg.length + 1 : Nat) : Int)) = true := decide_eq_true (by omega)
      have hg := (HS.out.at HI.out.ok HI.out.lg).good
      have hu := hide (use_r wr y (s.at m') _ ⟨c1, _, _, _, rl, cl, h, rfl⟩ hg)
      have HG := hide hg
      have HLG := hide hlg
      obtain ⟨pa, pl⟩ := p
      simp only at p1c p2c
      have hll : ((lg.length + 1 : Nat) : Int) <= (cap : Int) := by omega
      unfold maxLen at cc2
      have HTL := hide htl
      clear h hlr hg htl hlg
      go_wp2_with fail
      refine hu.out.mono ?_
      rintro _ w2 ⟨rfl, hb2⟩
      have h2 := HH.out.later hb2
      have q11 := h2.q11
      have qf := h2.fz
      have y2 := h2.lt
      have pc0 := (hb2.cell (p := ⟨gl, off, none⟩) gz).trans p1c
      have pc1 := (hb2.cell (p := ⟨gl, off + 1, none⟩) gz).trans p2c
      have gz2 : gl < w2.heap.size := Nat.lt_of_lt_of_le gz hb2.size
      have HB2 := hide hb2
      clear h2 hb2 hu p1c p2c
      obtain ⟨U, hU⟩ : ∃ U, (s.at m').use = U := ⟨_, rfl⟩
      rw [hU]
      go_upto_region 10 with fail
      go_cut [5] from 20 to 96 (fun t5 w' => t5 = ptrV w2.heap.size /\ ∃ la lc, Hid (w' = (w2.setCell ⟨y, 11, none⟩ (.slice la lg.length lc)).alloc (.cells #[.int .i64 pa, .int .i64 pl] 65) /\ RowL w2 (.slice la lg.length lc) lg /\ ∀ g, (Value.slice la lg.length lc).ownBlock = some g -> g = gl))
      case first =>
       by_cases hcap : cap = 1
       ·subst hcap
        have hlg0 : lg.length = 0 := by omega
        have fin := hide (show RowL w2 (.slice (some ⟨gl, off, none⟩) lg.length 0) lg /\ ∀ g, (Value.slice (some ⟨gl, off, none⟩) lg.length 0).ownBlock = some g -> g = gl from ⟨by
         have hq := HTL.out.kept (w' := w2) fun g hg => HB2.out.block g (HTL.out.lt g hg)
         rcases hq with ⟨hq, _⟩ | ⟨g', off', cap', cs', hq, hg', x1, x2, x3, x4⟩
         ·cases hq
         ·cases hq
          refine .inr ⟨gl, off, 0, cs', rfl, hg', by omega, by omega, by unfold maxLen; omega, fun i q hq => ?_⟩
          have := (List.getElem?_eq_some_iff.1 hq).1
          omega, fun g hg => by simpa [Value.ownBlock, eq_comm] using hg⟩)
        clear HTL
        go_wp2
        go_meet
        exact ⟨rfl, some ⟨gl, off, none⟩, 0, hide ⟨by rw [hlg0], fin.out⟩⟩
       ·have hcap2 : ¬ cap - 1 = 0 := by omega
        have hcap3 : 1 < cap := by omega
        have fin := hide (show RowL w2 (.slice (some ⟨gl, off + 2, none⟩) lg.length (cap - 1)) lg /\ ∀ g, (Value.slice (some ⟨gl, off + 2, none⟩) lg.length (cap - 1)).ownBlock = some g -> g = gl from ⟨HTL.out.kept (w' := w2) fun g hg => HB2.out.block g (HTL.out.lt g hg), fun g hg => by simpa [Value.ownBlock, eq_comm] using hg⟩)
        clear HTL
        go_wp2
        go_meet
        exact ⟨rfl, _, _, hide ⟨rfl, fin.out⟩⟩
      case rest =>
       obtain ⟨rfl, la, lc, HC⟩ := hcut
       obtain ⟨hwc, hrl2, hown⟩ := HC.out
       have h2 := HH.out.later HB2.out
       have h3 : RefT wc y (s.at { m' with lg := lg }) c1 vr vc (.slice la lg.length lc) rl cl := by
        rw [hwc]
        exact (h2.logs (fun _ _ _ => rfl) hrl2 fun g hg => .inl (by rw [hown g hg]; rfl)).later ((Below.refl _ _).alloc (Nat.le_refl _) _)
       have hzc : wc.heap.size = w2.heap.size + 1 := by rw [hwc]; simp
       have hpb : wc.heap[w2.heap.size]? = some (.cells #[.int .i64 pa, .int .i64 pl] 65 (0, 0)) := by
        rw [hwc]
        have := World.alloc_heap_new (w2.setCell ⟨y, 11, none⟩ (.slice la lg.length lc)) (.cells #[.int .i64 pa, .int .i64 pl] 65)
        rwa [setCell_sz] at this
       have HA3 := hide (show RAcc w A wc y (s.at { m' with lg := lg }) (refA y vr vc (.slice la lg.length lc)) from by
        have hac := HAC.out
        rw [hA'] at hac
        have ho : Only [y] w2 wc := by
         rw [hwc]
         exact (onlyY _ _ _ _).trans (Only.of_below [y] ((Below.refl _ _).alloc (Nat.le_refl _) _)) fun x hx => .inl hx
        refine hac.yOnly HB2.out ho h3 fun k hk => .inl (refA_mem.2 ?_)
        rcases refA_mem.1 hk with h1 | h1 | h1 | h1
        ·exact .inl h1
        ·exact .inr (.inl h1)
        ·exact .inr (.inr (.inl h1))
        ·exact .inr (.inr (.inr (by rw [hown k h1]; rfl))))
       have pb0 : wc.cell? ⟨w2.heap.size, 0, none⟩ = some (.int .i64 pa) := by simp [World.cell?, hpb]
       have pb1 : wc.cell? ⟨w2.heap.size, 1, none⟩ = some (.int .i64 pl) := by simp [World.cell?, hpb]
       have HPB := hide hpb
       have H3 := hide h3
       have hrl := h3.rlen (show Good (s.at { m' with lg := lg }) from ⟨HG.out.xs, HG.out.ok, HG.out.k1, HG.out.k3, fun m2 hm2 => by
        obtain ⟨x1, x2, x3, x4, x5⟩ := HG.out.mv m' rfl
        cases hm2
        refine ⟨x1, x2, x3, x4, ?_⟩
        rw [HLG.out, List.length_cons] at x5
        show lg.length <= 100
        omega⟩)
       have hfi := hide (find_r wc.drew vr rl pa pl (h3.rr.kept fun _ _ => rfl) (by omega))
       have HCL := hide (h3.clen HI.out.ok.sorted HI.out.ok.ok)
       have HFI := hide (h3.rep.find HG.out.xs pa pl)
       have q5 := h3.q5
       have y3 := h3.lt
       have pz : w2.heap.size < wc.heap.size := by omega
       obtain ⟨ra, rc, hvr⟩ := h3.rr.shape
       obtain ⟨ca, cc, hvc⟩ := h3.cr.shape
       subst hvr
       subst hvc
       clear h2 h3 hwc hrl2 hown HC hpb hrl q11 qf pc0 pc1 e2 e11 cc1 cc2 hll dl gz gz2 yl e6 e7
       go_wp2
       go_region_held3 (fun w' => w'.cell? ⟨y, 5, none⟩ = some (.slice ra rl.length rc) /\ w'.cell? ⟨w2.heap.size, 0, none⟩ = some (.int .i64 pa) /\ w'.cell? ⟨w2.heap.size, 1, none⟩ = some (.int .i64 pl)) (go_keep)
        (first | (go_at_call 105; refine hfi.out.mono ?_; rintro _ w3 ⟨rfl, hb3⟩; (have u1 : ∀ o, w3.cell? ⟨y, o, none⟩ = wc.cell? ⟨y, o, none⟩ := fun o => hb3.cell (p := ⟨y, o, none⟩) y3); (have u2 : ∀ o, w3.cell? ⟨w2.heap.size, o, none⟩ = wc.cell? ⟨w2.heap.size, o, none⟩ := fun o => hb3.cell (p := ⟨w2.heap.size, o, none⟩) pz)))
       have hbw3 : Below wc.heap.size wc w3 := (Below.refl _ wc).drew.trans hb3
       have h4 := H3.out.later hbw3
       have r8 := h4.q8
       have rf := h4.fz
       have y4 := h4.lt
       have x0 := (u2 0).trans pb0
       have x1 := (u2 1).trans pb1
       have pz3 : w2.heap.size < w3.heap.size := Nat.lt_of_lt_of_le pz hbw3.size
       have HB3 := hide hbw3
       have HA4 := hide (HA3.out.later hbw3)
       have H4 := hide h4
       have hgo := hide (gone_r w3.drew (.slice ca cl.length cc) cl pa pl (h4.cr.kept fun _ _ => rfl) (by have := HCL.out; omega))
       obtain ⟨iv, hiv⟩ : ∃ iv, iU (idxU rl pa pl) = iv := ⟨_, rfl⟩
       rw [hiv]
       clear hb3 hbw3 h4 u1 u2 q5 y3 pb0 pb1 hfi
       go_wp2
       go_cut [6] from 20 to 96 (fun t6 w' => t6 = .int .i64 iv /\ ∃ va vn vcp, Hid (∃ W, w' = W.setCell ⟨y, 8, none⟩ (.slice va vn vcp) /\ RowU W (.slice va vn vcp) (goneU cl pa pl) /\ Below w3.heap.size w3 W /\ ∀ g, (Value.slice va vn vcp).ownBlock = some g -> w3.heap.size <= g))
       case first =>
        go_region_with (first
         | (go_at_call 106; refine hgo.out.mono ?_; rintro _ w4 ⟨v4, rfl, hr4, hb4, hf4⟩; (obtain ⟨va, vcp, rfl⟩ := hr4.shape); (have f4 : w4.frozen? ⟨y, 8, none⟩ = false := (hb4.frozen (p := ⟨y, 8, none⟩) y4).trans (rf 8)); (have q4 : w4.cell? ⟨y, 8, none⟩ = some (.slice ca cl.length cc) := (hb4.cell (p := ⟨y, 8, none⟩) y4).trans r8); (have z4 : y < w4.heap.size := Nat.lt_of_lt_of_le y4 hb4.size)))
        all_goals
         have fin := hide (And.intro hr4 (And.intro ((Below.refl _ w3).drew.trans hb4) hf4))
         clear hr4 hb4 hf4
         go_wp2_with fail
         go_meet
         exact ⟨rfl, _, _, _, hide ⟨_, rfl, fin.out⟩⟩
       case rest =>
        obtain ⟨rfl, va, vn, vcp, HW⟩ := hcut
        obtain ⟨W, hw4, hrow, hbw4, hfr⟩ := HW.out
        have hW4 := H4.out.later hbw4
        have hfr2 : ∀ g, (Value.slice va vn vcp).ownBlock = some g -> g ∉ refA y (.slice ra rl.length rc) (.slice ca cl.length cc) (.slice la lg.length lc) := fun g hg hm => by
         have q1 := H4.out.ltA g hm
         have q2 := hfr g hg
         omega
        have h5 : RefT wc y (s.at { m' with lg := lg, ys := delE m'.ys pa pl }) c1 (.slice ra rl.length rc) (.slice va vn vcp) (.slice la lg.length lc) rl (goneU cl pa pl) := by
         rw [hw4]
         exact hW4.recopy hrow (hW4.cep.gone HI.out.ok.sorted pa pl) fun g hg => .inr (hfr2 g hg)
        have HA5 := hide (show RAcc w A wc y (s.at { m' with lg := lg, ys := delE m'.ys pa pl }) (refA y (.slice ra rl.length rc) (.slice va vn vcp) (.slice la lg.length lc)) from by
         refine HA4.out.yOnly hbw4 ?_ h5 (refA_copy fun g hg => hfr g hg)
         rw [hw4]
         exact onlyY _ _ _ _)
        have H5 := hide h5
        clear hW4 hrow hbw4 hfr hfr2 hw4 HW hgo r8 rf x0 x1 pz3 pz HB3 H4 HA4 H3 HA3 HPB
        rcases HFI.out with ⟨hi0, hg0⟩ | ⟨k, n, hi0, hk, hg0⟩
        ·have hiv2 : iv = -1 := by rw [<- hiv, hi0]; rfl
         subst hiv2
         have HCATCH := hide (show m'.catch s.xs = { m' with lg := lg, ys := delE m'.ys pa pl } from catch_none HLG.out hg0)
         have HAX : Hid (RAcc w A wc y (s.at (m'.catch s.xs)) (refA y (.slice ra rl.length rc) (.slice va vn vcp) (.slice la lg.length lc))) := hide (by rw [HCATCH.out]; exact HA5.out)
         clear h5 hi0 hg0 hiv HFI H5 HA5 y4
         obtain ⟨AX, hAX⟩ : ∃ AX, refA y (.slice ra rl.length rc) (.slice va vn vcp) (.slice la lg.length lc) = AX := ⟨_, rfl⟩
         rw [hAX] at HAX
         have hG2 := hide ((HS.out.at (HI.out.next HS.out).ok (HI.out.next HS.out).lg).good)
         have hov := hide (over_r wc y (s.at (m'.catch s.xs)) AX U HAX.out.rt hG2.out)
         have hr0 := HR.out
         rw [show min (ch - j) m'.lg.length = min (ch - (j + 1)) lg.length + 1 by rw [HLG.out, List.length_cons]; omega, ct_cons] at hr0
         have hlg2 : (m'.catch s.xs).lg = lg := by rw [HCATCH.out]
         rw [<- hlg2] at hr0
         have HR0 := hide hr0
         have HN := hide (HI.out.next HS.out)
         clear hr0 hlg2 HCATCH
         go_wp2_with fail
         refine hov.out.mono ?_
         rintro _ w7 ⟨rfl, hb7⟩
         have HA8 := hide (HAX.out.later hb7)
         have hovd : (s.at m').over (s.at (m'.catch s.xs)) ↔ (s.b < (s.at (m'.catch s.xs)).use /\ U < (s.at (m'.catch s.xs)).use) := by
          unfold TS.over
          rw [hU]
          exact Iff.rfl
         have hsb : (s.at (m'.catch s.xs)).b = s.b := rfl
         rw [hsb]
         have hr1 := HR0.out
         obtain ⟨mc, hmc⟩ : ∃ mc, m'.catch s.xs = mc := ⟨_, rfl⟩
         rw [hmc] at HA8 hovd hr1 HN ⊢
         generalize (s.at mc).use = U2 at *
         clear hb7 hov HAX hsb HR0 hmc hAX
         by_cases hc : s.b < U2 /\ U < U2
         ·rw [if_pos (hovd.2 hc)] at hr1
          have hd : (decide (s.b < U2) && decide (U < U2)) = true := by simp [hc]
          rw [hd]
          have hbk := hide (back_r w7 y _ AX HA8.out.rt)
          have HR9 := hide hr1
          clear hd hr1 hc hovd
          go_wp2_with fail
          refine hbk.out.mono ?_
          rintro _ w8 hp8
          obtain ⟨_, rfl, -⟩ := id hp8
          have fin := hide (show RTurn w y A (.int .i64 R.1) R.2 (.returned (.int .i64 4)) w8 from by
           obtain ⟨_, A9, h9⟩ := HA8.out.turn hp8
           rw [<- HR9.out]
           exact h9.fin)
          clear hp8 hbk
          go_wp2
          go_ret
          exact fin.out
         ·rw [if_neg fun h => hc (hovd.1 h)] at hr1
          have hd : (decide (s.b < U2) && decide (U < U2)) = false := by
           rw [Bool.and_eq_false_iff, decide_eq_false_iff_not, decide_eq_false_iff_not]
           omega
          rw [hd]
          have HR9 := hide hr1
          clear hd hr1 hc hovd
          go_wp2
          exact ⟨⟨j + 1, mc, AX, by omega, by simp, HA8, HN, HR9⟩, by simp [intOf]; omega⟩
        ·have hiv2 : iv = (k : Int) := by rw [<- hiv, hi0]; rfl
         subst hiv2
         have hkl := (List.getElem?_eq_some_iff.1 hk).1
         have hn0 : n ≠ 0 := by
          obtain ⟨x, hx, e1, e2, e3⟩ := getE_mem hg0
          have := (HS.out.ok x hx).2.1
          omega
         have HCATCH := hide (show m'.catch s.xs = { m' with lg := lg, ys := putE m'.ys pa pl n } from catch_some HLG.out hg0 hn0)
         have dk : decide (0 <= (k : Int)) = true := decide_eq_true (by omega)
         have k0 : (0 : Int) <= (k : Int) := by omega
         have k1 : (k : Int) < (rl.length : Int) := by omega
         have q5 := h5.q5
         have q8 := h5.q8
         have qf := h5.fz
         have y5 := h5.lt
         obtain ⟨g1, eg, s0, s1, s2, s3⟩ := rowG_rte h5.rr hk
         cases eg
         simp only at s1 s2 s3
         have hla := hide (laid_r wc.drew (.slice va vn vcp) (goneU cl pa pl) ⟨pa, pl, n⟩ (h5.cr.kept fun _ _ => rfl) (by have := HCL.out; have := goneU_len cl pa pl; omega))
         simp only at hla
         clear h5 hi0 hg0 hiv HFI y4 hk
         go_wp2
         go_cut [6] from 20 to 96 (fun t6 w' => t6 = .int .i64 (k : Int) /\ ∃ va' vn' vcp', Hid (∃ W, w' = W.setCell ⟨y, 8, none⟩ (.slice va' vn' vcp') /\ RowU W (.slice va' vn' vcp') (laidU (goneU cl pa pl) ⟨pa, pl, n⟩) /\ Below wc.heap.size wc W /\ ∀ g, (Value.slice va' vn' vcp').ownBlock = some g -> wc.heap.size <= g))
         case first =>
          go_region_with (first
           | (go_at_call 107; refine hla.out.mono ?_; rintro _ w4 ⟨v4, rfl, hr4, hb4, hf4⟩; (obtain ⟨va4, vcp4, rfl⟩ := hr4.shape); (have f4 : w4.frozen? ⟨y, 8, none⟩ = false := (hb4.frozen (p := ⟨y, 8, none⟩) y5).trans (qf 8)); (have q4 : w4.cell? ⟨y, 8, none⟩ = some (.slice va vn vcp) := (hb4.cell (p := ⟨y, 8, none⟩) y5).trans q8); (have z4 : y < w4.heap.size := Nat.lt_of_lt_of_le y5 hb4.size)))
          all_goals
           have fin := hide (And.intro hr4 (And.intro ((Below.refl _ wc).drew.trans hb4) hf4))
           clear hr4 hb4 hf4
           go_wp2_with fail
           go_meet
           exact ⟨rfl, _, _, _, hide ⟨_, rfl, fin.out⟩⟩
         case rest =>
          obtain ⟨rfl, va', vn', vcp', HW⟩ := hcut
          obtain ⟨W, hw4, hrow, hbw4, hfr⟩ := HW.out
          have hW4 := H5.out.later hbw4
          have hfr2 : ∀ g, (Value.slice va' vn' vcp').ownBlock = some g -> g ∉ refA y (.slice (some ⟨g1, 0, none⟩) rl.length rc) (.slice va vn vcp) (.slice la lg.length lc) := fun g hg hm => by
           have q1 := H5.out.ltA g hm
           have q2 := hfr g hg
           omega
          have h6 : RefT wc y (s.at { m' with lg := lg, ys := putE m'.ys pa pl n }) c1 (.slice (some ⟨g1, 0, none⟩) rl.length rc) (.slice va' vn' vcp') (.slice la lg.length lc) rl (laidU (goneU cl pa pl) ⟨pa, pl, n⟩) := by
           rw [hw4, <- put_del HI.out.ok.sorted]
           exact hW4.recopy (m := { m' with lg := lg, ys := delE m'.ys pa pl }) hrow (hW4.cep.laid (delE_sorted HI.out.ok.sorted) ⟨pa, pl, n⟩) fun g hg => .inr (hfr2 g hg)
          have HAX : Hid (RAcc w A wc y (s.at (m'.catch s.xs)) (refA y (.slice (some ⟨g1, 0, none⟩) rl.length rc) (.slice va' vn' vcp') (.slice la lg.length lc))) := hide (by
           rw [HCATCH.out]
           refine HA5.out.yOnly hbw4 ?_ h6 (refA_copy fun g hg => hfr g hg)
           rw [hw4]
           exact onlyY _ _ _ _)
          clear hW4 hrow hbw4 hfr hfr2 hw4 HW hla q5 q8 qf s0 s1 s2 s3 h6 HA5 H5 y5
          obtain ⟨AX, hAX⟩ : ∃ AX, refA y (.slice (some ⟨g1, 0, none⟩) rl.length rc) (.slice va' vn' vcp') (.slice la lg.length lc) = AX := ⟨_, rfl⟩
          rw [hAX] at HAX
          have hG2 := hide ((HS.out.at (HI.out.next HS.out).ok (HI.out.next HS.out).lg).good)
          have hov := hide (over_r wc y (s.at (m'.catch s.xs)) AX U HAX.out.rt hG2.out)
          have hr0 := HR.out
          rw [show min (ch - j) m'.lg.length = min (ch - (j + 1)) lg.length + 1 by rw [HLG.out, List.length_cons]; omega, ct_cons] at hr0
          have hlg2 : (m'.catch s.xs).lg = lg := by rw [HCATCH.out]
          rw [<- hlg2] at hr0
          have HR0 := hide hr0
          have HN := hide (HI.out.next HS.out)
          clear hr0 hlg2 HCATCH
          go_wp2_with fail
          refine hov.out.mono ?_
          rintro _ w7 ⟨rfl, hb7⟩
          have HA8 := hide (HAX.out.later hb7)
          have hovd : (s.at m').over (s.at (m'.catch s.xs)) ↔ (s.b < (s.at (m'.catch s.xs)).use /\ U < (s.at (m'.catch s.xs)).use) := by
           unfold TS.over
           rw [hU]
           exact Iff.rfl
          have hsb : (s.at (m'.catch s.xs)).b = s.b := rfl
          rw [hsb]
          have hr1 := HR0.out
          obtain ⟨mc, hmc⟩ : ∃ mc, m'.catch s.xs = mc := ⟨_, rfl⟩
          rw [hmc] at HA8 hovd hr1 HN ⊢
          generalize (s.at mc).use = U2 at *
          clear hb7 hov HAX hsb HR0 hmc hAX
          by_cases hc : s.b < U2 /\ U < U2
          ·rw [if_pos (hovd.2 hc)] at hr1
           have hd : (decide (s.b < U2) && decide (U < U2)) = true := by simp [hc]
           rw [hd]
           have hbk := hide (back_r w7 y _ AX HA8.out.rt)
           have HR9 := hide hr1
           clear hd hr1 hc hovd
           go_wp2_with fail
           refine hbk.out.mono ?_
           rintro _ w8 hp8
           obtain ⟨_, rfl, -⟩ := id hp8
           have fin := hide (show RTurn w y A (.int .i64 R.1) R.2 (.returned (.int .i64 4)) w8 from by
            obtain ⟨_, A9, h9⟩ := HA8.out.turn hp8
            rw [<- HR9.out]
            exact h9.fin)
           clear hp8 hbk
           go_wp2
           go_ret
           exact fin.out
          ·rw [if_neg fun h => hc (hovd.1 h)] at hr1
           have hd : (decide (s.b < U2) && decide (U < U2)) = false := by
            rw [Bool.and_eq_false_iff, decide_eq_false_iff_not, decide_eq_false_iff_not]
            omega
           rw [hd]
           have HR9 := hide hr1
           clear hd hr1 hc hovd
           go_wp2
           exact ⟨⟨j + 1, mc, AX, by omega, by simp, HA8, HN, HR9⟩, by simp [intOf]; omega⟩
     ·have hjd : decide ((j : Int) < (ch : Int)) = false := decide_eq_false (by omega)
      rw [hlg] at hlr
      obtain ⟨gl, off, cap, rfl, gz, c1, c2, cc1, cc2, htl⟩ := hlr.tail
      have dl : decide (0 < ((lg.length + 1 : Nat) : Int)) = true := decide_eq_true (by omega)
      have fin := hide (show RTurn w y A (.int .i64 R.1) R.2 (.returned (.int .i64 2)) wr from by
       have hr := HR.out
       rw [show min (ch - j) m'.lg.length = 0 by omega] at hr
       unfold ctRun at hr
       rw [if_neg (by rw [hlg]; simp)] at hr
       rw [<- hr]
       exact HAC.out.fin)
      clear h hlr htl hlg
      go_wp2
      go_ret
      exact fin.out
end Go.Proofs.YtglbamalagacgaaGreat

import Derived.Test.YtglbamalagacgaaGreatN1
import Derived.Test.YtglbamalagacgaaGreatY5
import Derived.BigRegion
namespace Go.Proofs.YtglbamalagacgaaGreat
open Go.RowKit Go.Shelf
attribute [local go_sem] Oper.semAt_some
set_option maxRecDepth 4000 in
set_option maxHeartbeats 2000000 in
theorem told_r (w : World) (y : Nat) (s : TS) (A : List Nat) (hT : RT w y s A) (hg : Good s) :
  Calls Tryz.prog 65 #[ptrV y] w fun r w' => r = .returned (celV s.act (tgtM s.mv) (lgdM s.mv) s.b) /\ Below w.heap.size w w' := by
 obtain ⟨c0, vr, vc, vl, rl, cl, h, rfl⟩ := hT
 have tl := h.lt
 have t4 := h.q4
 have t5 := h.q5
 have t1 := h.q1
 have tn : y ≠ w.heap.size := by omega
 have tn' : w.heap.size ≠ y := by omega
 have tl1 : y < w.heap.size + 1 := by omega
 have tl2 : y < w.heap.size + 1 + 1 := by omega
 have tn2 : y ≠ w.heap.size + 1 := by omega
 have tn2' : w.heap.size + 1 ≠ y := by omega
 have hrl := h.rlen hg
 have Hcl := hide (fun W (hW : Below w.heap.size w W) => cells_r W s.k vr rl s.xs hg.k1 hg.k3 (h.later hW).rr (by omega) h.rep hg.xs hg.ok)
 have HT := hide h
 have HG := hide hg
 have hact : needK s.k s.xs = s.act := rfl
 rw [hact] at Hcl
 obtain ⟨ra, rc, rfl⟩ := h.rr.shape
 generalize s.act = nn at *
 obtain ⟨bb, hbb⟩ : ∃ bb, s.b = bb := ⟨_, rfl⟩
 obtain ⟨kk, hkk⟩ : ∃ kk, s.k = kk := ⟨_, rfl⟩
 rw [hbb] at t1 ⊢
 rw [hkk] at t4 Hcl
 clear h hg hact hbb hkk
 go_enter Tryz.func65, Tryz.ntmps65
 go_wp2
 go_cut [3] from 4 to 40 (fun sl w' => ∃ bc, sl = ptrV bc /\ CelI w w' bc nn 0 0 bb)
 case first =>
  go_region_held3 (fun w' => w'.cell? ⟨y, 4, none⟩ = some (.int .i64 kk) /\ w'.cell? ⟨y, 5, none⟩ = some (.slice ra rl.length rc) /\ w'.cell? ⟨y, 1, none⟩ = some (.int .i64 bb)) (go_keep)
   ((go_at_call 102; refine (Hcl.out _ (by repeat (first | exact Below.refl _ _ | refine below_drewN ?_ _ | refine Below.drew ?_ | refine Below.trans ?_ (Below.mono (by assumption) ?_) | refine Below.alloc ?_ ?_ _ | refine Below.setCell ?_ ?_ _ | omega | (simp; omega) | simp))).mono ?_; rintro _ w2 ⟨rfl, hb2⟩; have hc2 := (bcell hb2).1; have hf2 := (bcell hb2).2))
  all_goals
   first
    | (have fin := hide (cel_alloc (w := w) (a := nn) (d := bb) hb2))
    | (have fin := hide (cel_store (w := w) (a := nn) (d := bb) hb2))
   clear hb2 hc2 hf2
   go_wp2_with fail
   go_meet
   exact ⟨_, rfl, fin.out⟩
 case rest =>
  obtain ⟨bc, rfl, hC⟩ := hcut
  have hB := hC.below
  have hsz := hB.size
  have h2 := HT.out.later hB
  have u0 : wc.cell? ⟨bc, 0, none⟩ = some (.int .i64 nn) := by simp [World.cell?, hC.box]
  have u1 : wc.cell? ⟨bc, 1, none⟩ = some (.int .i64 0) := by simp [World.cell?, hC.box]
  have u2 : wc.cell? ⟨bc, 2, none⟩ = some (.int .i64 0) := by simp [World.cell?, hC.box]
  have u3 : wc.cell? ⟨bc, 3, none⟩ = some (.int .i64 bb) := by simp [World.cell?, hC.box]
  have uf : ∀ o, wc.frozen? ⟨bc, o, none⟩ = false := fun o => by simp [World.frozen?, hC.box]
  have v0 : wc.cell? ⟨w.heap.size, 0, none⟩ = some (.int .i64 0) := by simp [World.cell?, hC.res]
  have v1 : wc.cell? ⟨w.heap.size, 1, none⟩ = some (.int .i64 0) := by simp [World.cell?, hC.res]
  have v2 : wc.cell? ⟨w.heap.size, 2, none⟩ = some (.int .i64 0) := by simp [World.cell?, hC.res]
  have v3 : wc.cell? ⟨w.heap.size, 3, none⟩ = some (.int .i64 0) := by simp [World.cell?, hC.res]
  have vf : ∀ o, wc.frozen? ⟨w.heap.size, o, none⟩ = false := fun o => by simp [World.frozen?, hC.res]
  have ne1 : ¬ (bc = w.heap.size) := by have := hC.ne; omega
  have ne2 : ¬ (w.heap.size = bc) := by have := hC.ne; omega
  have ne3 : ¬ (bc = y) := by have := hC.ne; omega
  have ne4 : ¬ (y = bc) := by have := hC.ne; omega
  have q6 := h2.q6
  have zb : bc < wc.heap.size := (Array.getElem?_eq_some_iff.1 hC.box).1
  have zr : w.heap.size < wc.heap.size := (Array.getElem?_eq_some_iff.1 hC.res).1
  have zbc : w.heap.size <= bc := Nat.le_of_lt hC.ne
  have zt : y < wc.heap.size := by omega
  have HB := hide hB
  rcases (show s.mv = none ∨ ∃ m, s.mv = some m by cases s.mv with | none => exact .inl rfl | some m => exact .inr ⟨m, rfl⟩) with hmv | ⟨m, hmv⟩
  ·have htg : tgtM s.mv = 0 := by rw [hmv]; rfl
   have hlg : lgdM s.mv = 0 := by rw [hmv]; rfl
   rw [hmv, show knM none = 0 from rfl] at q6
   have Htg := hide htg
   have Hlg := hide hlg
   clear hC hB HT h2 Hcl hmv htg hlg t1 t4 t5 HG
   go_wp2
   refine bodyPost_ret (v := celV nn 0 0 bb) (by simp [results, Tryz.results65, go_sem, *]) rfl ⟨by rw [Htg.out, Hlg.out], ?_⟩
   exact (((HB.out.setCell (by simp) _).setCell (by simp) _).setCell (by simp) _).setCell (by simp) _
  ·have htg : tgtM s.mv = needK m.k m.ys := by rw [hmv]; rfl
   have hlg : lgdM s.mv = (m.lg.length : Nat) := by rw [hmv]; rfl
   obtain ⟨g1, g2, g3, g4, g5⟩ := HG.out.mv m hmv
   rw [hmv, show knM (some m) = m.k from rfl] at q6
   have q8 := h2.q8
   have q11 := h2.q11
   have hcep := h2.cep
   rw [hmv] at hcep
   have hcl2 : cl.length <= 1000000 := by
    have h1 : cl.length = m.ys.length := hcep.len g1
    have := ok_len g1 g2
    omega
   have Hc2 := hide (cells_r wc.drew m.k vc cl m.ys g3 g4 (h2.cr.kept fun _ _ => rfl) hcl2 hcep g1 g2)
   have hlr := h2.lr
   rw [hmv] at hlr
   obtain ⟨la, lc, hlv⟩ := hlr.shape
   have hlv : vl = .slice la m.lg.length lc := hlv
   obtain ⟨ca, cc, hcv⟩ := h2.cr.shape
   subst hlv
   subst hcv
   have dk : (m.k != 0) = true := by simp; omega
   generalize needK m.k m.ys = tg at *
   obtain ⟨mk, hmk⟩ : ∃ mk, m.k = mk := ⟨_, rfl⟩
   rw [hmk] at q6 Hc2 dk
   have Htg := hide htg
   have Hlg := hide hlg
   clear hC hB HT h2 Hcl htg hlg hmv t1 t4 t5 HG hlr hcep g1 g2 g3 g4 g5 hmk
   go_wp2
   go_region_held3 (fun w' => w'.cell? ⟨y, 6, none⟩ = some (.int .i64 mk) /\ w'.cell? ⟨y, 8, none⟩ = some (.slice ca cl.length cc)) (go_keep)
    (first | (go_at_call 102; refine Hc2.out.mono ?_; rintro _ w3 ⟨rfl, hb3⟩; (have u9 : ∀ o, w3.cell? ⟨y, o, none⟩ = wc.cell? ⟨y, o, none⟩ := fun o => hb3.cell (p := ⟨y, o, none⟩) zt); (have hc3 : ∀ b o, b < wc.heap.size -> w3.cell? ⟨b, o, none⟩ = wc.cell? ⟨b, o, none⟩ := fun b o hb => hb3.cell (p := ⟨b, o, none⟩) hb); (have hf3 : ∀ b o, b < wc.heap.size -> w3.frozen? ⟨b, o, none⟩ = wc.frozen? ⟨b, o, none⟩ := fun b o hb => hb3.frozen (p := ⟨b, o, none⟩) hb); (have y1 := (hc3 bc 1 zb).trans u1); (have yf : ∀ o, w3.frozen? ⟨bc, o, none⟩ = false := fun o => (hf3 bc o zb).trans (uf o))))
   have x11 := (u9 11).trans q11
   have y0 := (hc3 bc 0 zb).trans u0
   have y2 := (hc3 bc 2 zb).trans u2
   have y3 := (hc3 bc 3 zb).trans u3
   have r0 := (hc3 w.heap.size 0 zr).trans v0
   have r1 := (hc3 w.heap.size 1 zr).trans v1
   have r2 := (hc3 w.heap.size 2 zr).trans v2
   have r3 := (hc3 w.heap.size 3 zr).trans v3
   have rf : ∀ o, w3.frozen? ⟨w.heap.size, o, none⟩ = false := fun o => (hf3 w.heap.size o zr).trans (vf o)
   have z3 : wc.heap.size <= w3.heap.size := hb3.size
   have HB3 := hide (HB.out.trans (((Below.refl _ wc).drew.trans hb3).mono HB.out.size))
   clear hb3 Hc2 hc3 hf3 u9 u0 u1 u2 u3 uf v0 v1 v2 v3 vf q6 q8 q11
   go_wp2
   refine bodyPost_ret (v := celV nn tg (m.lg.length : Nat) bb) (by simp [results, Tryz.results65, go_sem, *]) rfl ⟨by rw [Htg.out, Hlg.out], ?_⟩
   exact (((((HB3.out.setCell zbc _).setCell zbc _).setCell (by simp) _).setCell (by simp) _).setCell (by simp) _).setCell (by simp) _
set_option maxRecDepth 8000 in
set_option maxHeartbeats 4000000 in
theorem state_r (w : World) (y : Nat) (s : TS) (A : List Nat) (hT : RT w y s A) :
  Calls Tryz.prog 71 #[ptrV y] w fun r w' => r = .returned (staV s.k (knM s.mv) (phM s.mv) (cpM s.mv) s.ms s.bs) /\ Below w.heap.size w w' := by
 obtain ⟨c0, vr, vc, vl, rl, cl, h, rfl⟩ := hT
 have tl := h.lt
 have t4 := h.q4
 have t6 := h.q6
 have t7 := h.q7
 have t10 := h.q10
 have t12 := h.q12
 have t13 := h.q13
 have tn : y ≠ w.heap.size := by omega
 have tn' : w.heap.size ≠ y := by omega
 have tl1 : y < w.heap.size + 1 := by omega
 clear h
 generalize s.k = a at *
 generalize knM s.mv = b at *
 generalize phM s.mv = c at *
 generalize cpM s.mv = d at *
 generalize s.ms = e at *
 generalize s.bs = f at *
 go_enter Tryz.func71, Tryz.ntmps71
 go_wp2
 go_region
 go_wp2
 refine bodyPost_ret (v := staV a b c d e f) (by simp [results, Tryz.results71, go_sem, *]) rfl ⟨rfl, ((Below.refl _ w).alloc (Nat.le_refl _) _).drew⟩
theorem RefT.fresh (w : World) (cf : Cfg) : RefT (w.alloc (.cells (refB cf.e (TS.fresh cf) (.slice none 0 0) (.slice none 0 0) (.slice none 0 0)) 122)) w.heap.size (TS.fresh cf) cf.e (.slice none 0 0) (.slice none 0 0) (.slice none 0 0) [] [] :=
 ⟨World.alloc_heap_new w _, RowG.nil _ _ _, Rep.nil, RowG.nil _ _ _, Rep.nil, RowL.nil _, by simp [Value.ownBlock], by simp [Value.ownBlock], by simp [Value.ownBlock], (fun g hg => by cases hg), (fun g hg => by cases hg)⟩
set_option maxHeartbeats 1000000 in
theorem new_r (w : World) (cf : Cfg) (h : isCfg cf) : Calls Tryz.prog 32 #[cfgV cf] w fun r w' => ∃ y A, r = .returned (.tuple #[ptrV y, .int .i64 0]) /\ Below w.heap.size w w' /\ RT w' y (TS.fresh cf) A /\ ∀ k ∈ A, w.heap.size <= k := by
 have fin := hide (show ∃ A, Below w.heap.size w ((w.alloc (.cells #[.int .i64 cf.e, .int .i64 cf.b, .int .i64 cf.c, .int .i64 cf.l] 23)).alloc (.cells (refB cf.e (TS.fresh cf) (.slice none 0 0) (.slice none 0 0) (.slice none 0 0)) 122)) /\ RT ((w.alloc (.cells #[.int .i64 cf.e, .int .i64 cf.b, .int .i64 cf.c, .int .i64 cf.l] 23)).alloc (.cells (refB cf.e (TS.fresh cf) (.slice none 0 0) (.slice none 0 0) (.slice none 0 0)) 122)) (w.heap.size + 1) (TS.fresh cf) A /\ ∀ k ∈ A, w.heap.size <= k from by
  have hr := RefT.fresh (w.alloc (.cells #[.int .i64 cf.e, .int .i64 cf.b, .int .i64 cf.c, .int .i64 cf.l] 23)) cf
  rw [World.size_alloc] at hr
  refine ⟨_, ((Below.refl _ w).alloc (Nat.le_refl _) _).alloc (by simp) _, ⟨_, _, _, _, _, _, hr, rfl⟩, fun k hk => ?_⟩
  rcases refA_mem.1 hk with h1 | h1 | h1 | h1
  ·omega
  ·cases h1
  ·cases h1
  ·cases h1)
 obtain ⟨e, b, ch, lg⟩ := cf
 obtain ⟨d1, d2, d3, d4, d5, d6, d7, d8⟩ := h
 simp only at d1 d2 d3 d4 d5 d6 d7 d8
 have q1 : decide (e < 1) = false := decide_eq_false (by omega)
 have q2 : decide (3 < e) = false := decide_eq_false (by omega)
 have q3 : decide (b < 1) = false := decide_eq_false (by omega)
 have q4 : decide (400 < b) = false := decide_eq_false (by omega)
 have q5 : decide (ch < 1) = false := decide_eq_false (by omega)
 have q6 : decide (8 < ch) = false := decide_eq_false (by omega)
 have q7 : decide (lg < 1) = false := decide_eq_false (by omega)
 have q8 : decide (16 < lg) = false := decide_eq_false (by omega)
 clear d1 d2 d3 d4 d5 d6 d7 d8
 go_enter Tryz.func32, Tryz.ntmps32
 go_wp2
 go_ret2
 obtain ⟨A, h1, h2, h3⟩ := fin.out
 exact ⟨w.heap.size + 1, rfl, h1, A, h2, h3⟩
set_option maxHeartbeats 1000000 in
theorem new_rno (w : World) (cf : Cfg) (h : ¬ isCfg cf) : Calls Tryz.prog 32 #[cfgV cf] w fun r w' => r = .returned (.tuple #[.pointer none, .int .i64 1]) /\ Below w.heap.size w w' := by
 have hB1 := hide (show Below w.heap.size w (w.alloc (.cells #[.int .i64 cf.e, .int .i64 cf.b, .int .i64 cf.c, .int .i64 cf.l] 23)) from (Below.refl _ w).alloc (Nat.le_refl _) _)
 have hcs := cfg_cases cf
 obtain ⟨e, b, ch, lg⟩ := cf
 simp only at hcs
 rcases hcs with h1 | h1 | h1 | h1 | h1 | h1 | h1 | h1 | h1
 ·exact absurd h1 h
 all_goals
  (try have q1 : decide (e < 1) = true := decide_eq_true (by omega))
  (try have q1 : decide (e < 1) = false := decide_eq_false (by omega))
  (try have q2 : decide (3 < e) = true := decide_eq_true (by omega))
  (try have q2 : decide (3 < e) = false := decide_eq_false (by omega))
  (try have q3 : decide (b < 1) = true := decide_eq_true (by omega))
  (try have q3 : decide (b < 1) = false := decide_eq_false (by omega))
  (try have q4 : decide (400 < b) = true := decide_eq_true (by omega))
  (try have q4 : decide (400 < b) = false := decide_eq_false (by omega))
  (try have q5 : decide (ch < 1) = true := decide_eq_true (by omega))
  (try have q5 : decide (ch < 1) = false := decide_eq_false (by omega))
  (try have q6 : decide (8 < ch) = true := decide_eq_true (by omega))
  (try have q6 : decide (8 < ch) = false := decide_eq_false (by omega))
  (try have q7 : decide (lg < 1) = true := decide_eq_true (by omega))
  (try have q7 : decide (lg < 1) = false := decide_eq_false (by omega))
  (try have q8 : decide (16 < lg) = true := decide_eq_true (by omega))
  clear h1 h
  go_enter Tryz.func32, Tryz.ntmps32
  go_wp2
  go_ret2
  exact ⟨rfl, hB1.out⟩
end Go.Proofs.YtglbamalagacgaaGreat

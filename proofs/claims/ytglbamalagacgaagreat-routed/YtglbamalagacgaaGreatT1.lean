import Derived.Test.YtglbamalagacgaaGreatB3
import Derived.Test.YtglbamalagacgaaGreatG2
import Derived.Deep.CutRange
namespace Go.Proofs.YtglbamalagacgaaGreat
open Go.RowKit Go.Shelf
attribute [local go_sem] Oper.semAt_some
set_option maxHeartbeats 400000 in
theorem isOver_any (w : World) (t : Nat) (b p q : Int) (h : w.cell? ⟨t, 1, none⟩ = some (.int .i64 b)) :
  Calls Tryz.prog 53 #[ptrV t, .int .i64 p, .int .i64 q] w fun r w' => w' = w /\ r = .returned (.bool (decide (b < q) && decide (p < q))) := by
 by_cases h1 : b < q
 ·go_enter Tryz.func53, Tryz.ntmps53
  go_wp2
  go_ret
  exact ⟨rfl, ret_bool (by simp [h1])⟩
 ·have h2 : decide (b < q) = false := decide_eq_false h1
  go_enter Tryz.func53, Tryz.ntmps53
  go_wp2
  go_ret
  exact ⟨rfl, ret_bool (by simp)⟩
abbrev celV (a b c d : Int) : Value := .agg #[.int .i64 a, .int .i64 b, .int .i64 c, .int .i64 d]
set_option maxHeartbeats 400000 in
theorem inUse_any (w : World) (a b c d : Int) (ha : 0 <= a) (ha' : a <= 100000) (hb : 0 <= b) (hb' : b <= 100000) (hc : 0 <= c) (hc' : c <= 100000) :
  Calls Tryz.prog 55 #[celV a b c d] w fun r w' => r = .returned (.int .i64 (a + b + c)) /\ Below w.heap.size w w' := by
 have e1 : IntKind.i64.wrap (a + b) = a + b := by rw [IntKind.wrap_i64]; omega
 have e2 : IntKind.i64.wrap (a + b + c) = a + b + c := by rw [IntKind.wrap_i64]; omega
 go_enter Tryz.func55, Tryz.ntmps55
 go_wp2
 go_ret
 exact ⟨rfl, (by repeat (first | exact Below.refl _ _ | refine below_drewN ?_ _ | refine Below.drew ?_ | refine Below.trans ?_ (Below.mono (by assumption) ?_) | refine Below.alloc ?_ ?_ _ | refine Below.setCell ?_ ?_ _ | omega | (simp; omega) | simp))⟩
theorem setT {w : World} {t : Nat} {cs : Array Value} {ty : TypeId} (hb : w.heap[t]? = some (.cells cs ty (0, 0))) (o : Nat) (v : Value) : (w.setCell ⟨t, o, none⟩ v).heap[t]? = some (.cells (cs.setIfInBounds o v) ty (0, 0)) /\ (∀ k, k ≠ t -> (w.setCell ⟨t, o, none⟩ v).heap[k]? = w.heap[k]?) /\ (w.setCell ⟨t, o, none⟩ v).heap.size = w.heap.size :=
 ⟨cellsSet w t o _ _ _ v hb, fun k hk => Below.heap_setCell _ ⟨t, o, none⟩ _ _ hk, by simp [World.setCell]⟩
set_option maxHeartbeats 400000 in
theorem rollBack_any (w : World) (t : Nat) (e : Value) (s : TS) (pm : Value) (F H : List Nat) (h : Tab3 w t e s pm F H) (hpm : ∃ p, pm = .pointer p) :
  Calls Tryz.prog 58 #[ptrV t] w fun r w' => Tab3 w' t e s.back (.pointer none) F [] /\ Only [t] w w' /\ r = .returned (.tuple #[]) := by
 obtain ⟨pp, rfl⟩ := hpm
 have tl := h.lt
 have t4 : w.cell? ⟨t, 4, none⟩ = some (.pointer pp) := by simp [World.cell?, h.blk]
 have t6 : w.cell? ⟨t, 6, none⟩ = some (.int .i64 s.bs) := by simp [World.cell?, h.blk]
 have tf : ∀ o, w.frozen? ⟨t, o, none⟩ = false := fun o => by simp [World.frozen?, h.blk]
 have fin := hide (show Tab3 ((w.setCell ⟨t, 4, none⟩ (.pointer none)).setCell ⟨t, 6, none⟩ (.int .i64 (wrap64 (s.bs + 1)))) t e s.back (.pointer none) F [] /\ Only [t] w ((w.setCell ⟨t, 4, none⟩ (.pointer none)).setCell ⟨t, 6, none⟩ (.int .i64 (wrap64 (s.bs + 1)))) from by
  obtain ⟨a1, a2, a3⟩ := setT h.blk 4 (.pointer none)
  obtain ⟨b1, b2, b3⟩ := setT a1 6 (.int .i64 (wrap64 (s.bs + 1)))
  refine ⟨⟨b1, h.eng.kept fun k hk => (b2 k (fun e => h.nt (e ▸ hk))).trans (a2 k (fun e => h.nt (e ▸ hk))), h.kind, ⟨rfl, rfl⟩, h.nt, by simp, fun k _ hk => by cases hk⟩, ⟨rfl, rfl, rfl, by omega, fun k _ hn => (b2 k (by simpa using hn)).trans (a2 k (by simpa using hn))⟩⟩)
 clear h
 go_enter Tryz.func58, Tryz.ntmps58
 go_wp2
 go_end0
 exact ⟨fin.out.1, fin.out.2, rfl⟩
set_option maxHeartbeats 400000 in
theorem cutOver_any (w : World) (t : Nat) (e : Value) (s : TS) (m : Mv) (mb : Nat) (e2 : Value) (lb : Nat) (F F2 G : List Nat) (h : Tab3 w t e s (ptrV mb) F (mb :: (F2 ++ G))) (hm : MovF w mb m e2 lb F2 G) :
  Calls Tryz.prog 85 #[ptrV t] w fun r w' => Tab3 w' t e2 (s.cut m) (.pointer none) F2 [] /\ Only [t] w w' /\ r = .returned (.tuple #[]) := by
 have tl := h.lt
 have ml := hm.lt
 have heq : ∃ T p, e2 = .iface T (ptrV p) := by obtain ⟨_, _, T, p, q, _⟩ := hm.eng; exact ⟨T, p, q⟩
 have heq1 : ∃ T p, e = .iface T (ptrV p) := by obtain ⟨_, _, T, p, q, _⟩ := h.eng; exact ⟨T, p, q⟩
 obtain ⟨T2, p2, rfl⟩ := heq
 obtain ⟨T1, p1, rfl⟩ := heq1
 have t0 : w.cell? ⟨t, 0, none⟩ = some (.iface T1 (ptrV p1)) := by simp [World.cell?, h.blk]
 have t4 : w.cell? ⟨t, 4, none⟩ = some (ptrV mb) := by simp [World.cell?, h.blk]
 have t5 : w.cell? ⟨t, 5, none⟩ = some (.int .i64 s.ms) := by simp [World.cell?, h.blk]
 have tf : ∀ o, w.frozen? ⟨t, o, none⟩ = false := fun o => by simp [World.frozen?, h.blk]
 have m0 : w.cell? ⟨mb, 0, none⟩ = some (.iface T2 (ptrV p2)) := by simp [World.cell?, hm.blk]
 have ne : ¬ (t = mb) := fun e => h.nh (by simp [e])
 have nt2 : t ∉ F2 := fun hk => h.nh (by simp [hk])
 have fin := hide (show Tab3 (((w.setCell ⟨t, 0, none⟩ (.iface T2 (ptrV p2))).setCell ⟨t, 4, none⟩ (.pointer none)).setCell ⟨t, 5, none⟩ (.int .i64 (wrap64 (s.ms + 1)))) t (.iface T2 (ptrV p2)) (s.cut m) (.pointer none) F2 [] /\ Only [t] w (((w.setCell ⟨t, 0, none⟩ (.iface T2 (ptrV p2))).setCell ⟨t, 4, none⟩ (.pointer none)).setCell ⟨t, 5, none⟩ (.int .i64 (wrap64 (s.ms + 1)))) from by
  obtain ⟨a1, a2, a3⟩ := setT h.blk 0 (.iface T2 (ptrV p2))
  obtain ⟨b1, b2, b3⟩ := setT a1 4 (.pointer none)
  obtain ⟨c1, c2, c3⟩ := setT b1 5 (.int .i64 (wrap64 (s.ms + 1)))
  refine ⟨⟨c1, hm.eng.kept fun k hk => ((c2 k (fun e => nt2 (e ▸ hk))).trans (b2 k (fun e => nt2 (e ▸ hk)))).trans (a2 k (fun e => nt2 (e ▸ hk))), hm.kind, ⟨rfl, rfl⟩, nt2, by simp, fun k _ hk => by cases hk⟩, ⟨rfl, rfl, rfl, by omega, fun k _ hn => ((c2 k (by simpa using hn)).trans (b2 k (by simpa using hn))).trans (a2 k (by simpa using hn))⟩⟩)
 clear h hm
 go_enter Tryz.func85, Tryz.ntmps85
 go_wp2
 go_end0
 exact ⟨fin.out.1, fin.out.2, rfl⟩
structure CelI (w w' : World) (bc : Nat) (a b c d : Int) : Prop where
 below : Below w.heap.size w w'
 box : w'.heap[bc]? = some (.cells #[.int .i64 a, .int .i64 b, .int .i64 c, .int .i64 d] 49 (0, 0))
 res : w'.heap[w.heap.size]? = some (.cells #[.int .i64 0, .int .i64 0, .int .i64 0, .int .i64 0] 49 (0, 0))
 ne : w.heap.size < bc
theorem cel_alloc {w w2 : World} {a d : Int} (hb : Below (w.alloc (Obj.cells #[.int .i64 0, .int .i64 0, .int .i64 0, .int .i64 0] 49)).drew.heap.size (w.alloc (Obj.cells #[.int .i64 0, .int .i64 0, .int .i64 0, .int .i64 0] 49)).drew w2) : CelI w (w2.alloc (.cells #[.int .i64 a, .int .i64 0, .int .i64 0, .int .i64 d] 49)) w2.heap.size a 0 0 d := by
 have hs := hb.size
 simp at hs
 have hB : Below w.heap.size w w2 := ((Below.refl _ w).alloc (Nat.le_refl _) _).drew.trans (hb.mono (by simp))
 refine ⟨hB.alloc (by omega) _, World.alloc_heap_new w2 _, ?_, by omega⟩
 exact ((Below.heap_alloc w2 _ _ (by omega)).trans (hb.block _ (by simp))).trans (World.alloc_heap_new w _)
theorem cel_store {w w2 : World} {a d : Int} (hb : Below ((w.alloc (Obj.cells #[.int .i64 0, .int .i64 0, .int .i64 0, .int .i64 0] 49)).alloc (Obj.cells #[.int .i64 0, .int .i64 0, .int .i64 0, .int .i64 0] 49)).drew.heap.size ((w.alloc (Obj.cells #[.int .i64 0, .int .i64 0, .int .i64 0, .int .i64 0] 49)).alloc (Obj.cells #[.int .i64 0, .int .i64 0, .int .i64 0, .int .i64 0] 49)).drew w2) :
  CelI w ((((w2.setCell ⟨w.heap.size + 1, 0, none⟩ (.int .i64 a)).setCell ⟨w.heap.size + 1, 1, none⟩ (.int .i64 0)).setCell ⟨w.heap.size + 1, 2, none⟩ (.int .i64 0)).setCell ⟨w.heap.size + 1, 3, none⟩ (.int .i64 d)) (w.heap.size + 1) a 0 0 d := by
 have hs := hb.size
 simp at hs
 have hB : Below w.heap.size w w2 := (((Below.refl _ w).alloc (Nat.le_refl _) _).alloc (by simp) _).drew.trans (hb.mono (by simp; omega))
 have h1 : w2.heap[w.heap.size + 1]? = some (.cells #[.int .i64 0, .int .i64 0, .int .i64 0, .int .i64 0] 49 (0, 0)) := by
  refine (hb.block _ (by simp)).trans ?_
  have := World.alloc_heap_new (w.alloc (Obj.cells #[.int .i64 0, .int .i64 0, .int .i64 0, .int .i64 0] 49)) (Obj.cells #[.int .i64 0, .int .i64 0, .int .i64 0, .int .i64 0] 49)
  rwa [World.size_alloc] at this
 obtain ⟨a1, a2, a3⟩ := setT h1 0 (.int .i64 a)
 obtain ⟨b1, b2, b3⟩ := setT a1 1 (.int .i64 0)
 obtain ⟨c1, c2, c3⟩ := setT b1 2 (.int .i64 0)
 obtain ⟨d1, d2, d3⟩ := setT c1 3 (.int .i64 d)
 refine ⟨(((hB.setCell (by simp) _).setCell (by simp) _).setCell (by simp) _).setCell (by simp) _, d1, ?_, by omega⟩
 refine (((((d2 _ (by omega)).trans (c2 _ (by omega))).trans (b2 _ (by omega))).trans (a2 _ (by omega))).trans (hb.block _ (by simp; omega))).trans ?_
 exact (Below.heap_alloc _ _ _ (by simp)).trans (World.alloc_heap_new w _)
set_option maxRecDepth 4000 in
set_option maxHeartbeats 1000000 in
theorem tcells_any (w : World) (t : Nat) (e : Value) (s : TS) (pm : Value) (F H : List Nat) (h : Tab3 w t e s pm F H) :
  Calls Tryz.prog 20 #[ptrV t] w fun r w' => r = .returned (celV s.act (tgtM s.mv) (lgdM s.mv) s.b) /\ Below w.heap.size w w' := by
 have tl := h.lt
 have hE := h.eng
 obtain ⟨T, p, fl, ft, fc, D⟩ := hE.disp
 have mc := D.mc.m
 have nc := D.mc.n
 have cc := D.mc.c
 have eq := D.eq
 have t0 : w.cell? ⟨t, 0, none⟩ = some e := by simp [World.cell?, h.blk]
 have t1 : w.cell? ⟨t, 1, none⟩ = some (.int .i64 s.b) := by simp [World.cell?, h.blk]
 have tn : t ≠ w.heap.size := by omega
 have tn' : w.heap.size ≠ t := by omega
 have tl1 : t < w.heap.size + 1 := by omega
 have tl2 : t < w.heap.size + 1 + 1 := by omega
 have tn2 : t ≠ w.heap.size + 1 := by omega
 have tn2' : w.heap.size + 1 ≠ t := by omega
 have hkd : needK (kindE e) s.xs = s.act := by rw [h.kind]; rfl
 have Hcl := hide (fun W (hW : Below w.heap.size w W) => D.cells W s.xs F (hE.later hW))
 have HT := hide h
 rw [hkd] at Hcl
 generalize s.act = nn at *
 generalize s.b = bb at *
 clear D hE h hkd
 subst eq
 go_enter Tryz.func20, Tryz.ntmps20
 go_wp2
 go_cut [3] from 4 to 37 (fun sl w' => ∃ bc, sl = ptrV bc /\ CelI w w' bc nn 0 0 bb)
 case first =>
  go_region_held3 (fun w' => w'.cell? ⟨t, 0, none⟩ = some (.iface T (ptrV p)) /\ w'.cell? ⟨t, 1, none⟩ = some (.int .i64 bb)) (go_keep)
   ((refine (Hcl.out _ (by repeat (first | exact Below.refl _ _ | refine below_drewN ?_ _ | refine Below.drew ?_ | refine Below.trans ?_ (Below.mono (by assumption) ?_) | refine Below.alloc ?_ ?_ _ | refine Below.setCell ?_ ?_ _ | omega | (simp; omega) | simp))).mono ?_; rintro _ w2 ⟨hb2, rfl⟩; have hc2 := (bcell hb2).1; have hf2 := (bcell hb2).2))
  all_goals
   first
    | (have fin := hide (cel_alloc (w := w) (a := nn) (d := bb) hb2))
    | (have fin := hide (cel_store (w := w) (a := nn) (d := bb) hb2))
   clear hb2 hc2 hf2
   go_wp2_with fail
   go_meet
   exact ⟨_, rfl, fin.out⟩
 case rest =>
  obtain ⟨bc, rfl, hC⟩ := hcut
  have hB := hC.below
  have hsz := hB.size
  have q0 : ∀ o, wc.cell? ⟨t, o, none⟩ = w.cell? ⟨t, o, none⟩ := fun o => hB.cell (p := ⟨t, o, none⟩) tl
  have u0 : wc.cell? ⟨bc, 0, none⟩ = some (.int .i64 nn) := by simp [World.cell?, hC.box]
  have u1 : wc.cell? ⟨bc, 1, none⟩ = some (.int .i64 0) := by simp [World.cell?, hC.box]
  have u2 : wc.cell? ⟨bc, 2, none⟩ = some (.int .i64 0) := by simp [World.cell?, hC.box]
  have u3 : wc.cell? ⟨bc, 3, none⟩ = some (.int .i64 bb) := by simp [World.cell?, hC.box]
  have uf : ∀ o, wc.frozen? ⟨bc, o, none⟩ = false := fun o => by simp [World.frozen?, hC.box]
  have v0 : wc.cell? ⟨w.heap.size, 0, none⟩ = some (.int .i64 0) := by simp [World.cell?, hC.res]
  have v1 : wc.cell? ⟨w.heap.size, 1, none⟩ = some (.int .i64 0) := by simp [World.cell?, hC.res]
  have v2 : wc.cell? ⟨w.heap.size, 2, none⟩ = some (.int .i64 0) := by simp [World.cell?, hC.res]
  have v3 : wc.cell? ⟨w.heap.size, 3, none⟩ = some (.int .i64 0) := by simp [World.cell?, hC.res]
  have vf : ∀ o, wc.frozen? ⟨w.heap.size, o, none⟩ = false := fun o => by simp [World.frozen?, hC.res]
  have ne1 : ¬ (bc = w.heap.size) := by have := hC.ne; omega
  have ne2 : ¬ (w.heap.size = bc) := by have := hC.ne; omega
  have ne3 : ¬ (bc = t) := by have := hC.ne; omega
  have ne4 : ¬ (t = bc) := by have := hC.ne; omega
  have HB := hide hB
  rcases (show s.mv = none ∨ ∃ m, s.mv = some m by cases s.mv with | none => exact .inl rfl | some m => exact .inr ⟨m, rfl⟩) with hmv | ⟨m, hmv⟩
  ·have hpm := HT.out.mv
   rw [hmv] at hpm
   have htg : tgtM s.mv = 0 := by rw [hmv]; rfl
   have hlg : lgdM s.mv = 0 := by rw [hmv]; rfl
   have t4 : wc.cell? ⟨t, 4, none⟩ = some (.pointer none) := (q0 4).trans (by simp [World.cell?, HT.out.blk, hpm.1])
   have Htg := hide htg
   have Hlg := hide hlg
   clear hC hB HT hpm Hcl q0 hmv htg hlg
   go_wp2
   refine bodyPost_ret (v := celV nn 0 0 bb) (by simp [results, Tryz.results20, go_sem, *]) rfl ⟨by rw [Htg.out, Hlg.out], ?_⟩
   exact (((HB.out.setCell (by simp) _).setCell (by simp) _).setCell (by simp) _).setCell (by simp) _
  ·have hpm := HT.out.mv
   rw [hmv] at hpm
   have htg : tgtM s.mv = needK m.k m.ys := by rw [hmv]; rfl
   have hlg : lgdM s.mv = (m.lg.length : Nat) := by rw [hmv]; rfl
   obtain ⟨mb, e2, lb, F2, G, rfl, hM, hH⟩ := hpm
   obtain ⟨T2, p2, fl2, ft2, fc2, D2⟩ := hM.eng.disp
   have mc2 := D2.mc.m
   have nc2 := D2.mc.n
   have cc2 := D2.mc.c
   have eq2 := D2.eq
   have ml := hM.lt
   have t4 : wc.cell? ⟨t, 4, none⟩ = some (ptrV mb) := (q0 4).trans (by simp [World.cell?, HT.out.blk])
   have p0 : wc.cell? ⟨mb, 0, none⟩ = some e2 := (hB.cell (p := ⟨mb, 0, none⟩) ml).trans (by simp [World.cell?, hM.blk])
   have Hc2 := hide (D2.cells wc m.ys F2 (hM.eng.later hB))
   have hkd : needK (kindE e2) m.ys = needK m.k m.ys := by rw [hM.kind]
   rw [hkd] at Hc2
   have HL := hide (show ∀ W, Below wc.heap.size wc W -> Calls Tryz.prog 49 #[ptrV lb] (W.setCell ⟨bc, 1, none⟩ (.int .i64 (needK m.k m.ys))) fun r w' => r = .returned (.int .i64 (m.lg.length : Nat)) /\ w' = W.setCell ⟨bc, 1, none⟩ (.int .i64 (needK m.k m.ys)) from fun W hW => logSize_any _ lb m.lg G (hM.log.kept fun k hk => ((Below.heap_setCell _ ⟨bc, 1, none⟩ _ _ (by have := hM.log.lt k hk; have := hC.ne; simp only; omega)).trans (hW.block k (by have := hM.log.lt k hk; omega))).trans (hB.block k (hM.log.lt k hk))))
   have p5 : wc.cell? ⟨mb, 5, none⟩ = some (ptrV lb) := (hB.cell (p := ⟨mb, 5, none⟩) ml).trans (by simp [World.cell?, hM.blk])
   have ne5 : ¬ (mb = bc) := by have := hC.ne; have := ml; omega
   have ne6 : ¬ (bc = mb) := by have := hC.ne; have := ml; omega
   have zb : bc < wc.heap.size := (Array.getElem?_eq_some_iff.1 hC.box).1
   have zr : w.heap.size < wc.heap.size := (Array.getElem?_eq_some_iff.1 hC.res).1
   have zbc : w.heap.size <= bc := Nat.le_of_lt hC.ne
   have zt : t < wc.heap.size := by omega
   have zm : mb < wc.heap.size := by have := ml; omega
   generalize needK m.k m.ys = tg at *
   generalize ((m.lg.length : Nat) : Int) = lgn at *
   have Htg := hide htg
   have Hlg := hide hlg
   clear hC hB HT hM Hcl q0 D2 hkd htg hlg hmv
   subst eq2
   go_wp2_with fail
   refine Hc2.out.mono ?_
   rintro _ w3 ⟨hb3, rfl⟩
   have hc3 : ∀ b o, b < wc.heap.size -> w3.cell? ⟨b, o, none⟩ = wc.cell? ⟨b, o, none⟩ := fun b o hb => hb3.cell (p := ⟨b, o, none⟩) hb
   have hf3 : ∀ b o, b < wc.heap.size -> w3.frozen? ⟨b, o, none⟩ = wc.frozen? ⟨b, o, none⟩ := fun b o hb => hb3.frozen (p := ⟨b, o, none⟩) hb
   have x0 := (hc3 t 4 zt).trans t4
   have x1 := (hc3 mb 5 zm).trans p5
   have y0 := (hc3 bc 0 zb).trans u0
   have y1 := (hc3 bc 1 zb).trans u1
   have y2 := (hc3 bc 2 zb).trans u2
   have y3 := (hc3 bc 3 zb).trans u3
   have yf : ∀ o, w3.frozen? ⟨bc, o, none⟩ = false := fun o => (hf3 bc o zb).trans (uf o)
   have r0 := (hc3 w.heap.size 0 zr).trans v0
   have r1 := (hc3 w.heap.size 1 zr).trans v1
   have r2 := (hc3 w.heap.size 2 zr).trans v2
   have r3 := (hc3 w.heap.size 3 zr).trans v3
   have rf : ∀ o, w3.frozen? ⟨w.heap.size, o, none⟩ = false := fun o => (hf3 w.heap.size o zr).trans (vf o)
   have HL3 := hide (HL.out w3 hb3)
   have HB3 := hide (HB.out.trans (hb3.mono HB.out.size))
   clear hb3 HL Hc2 hc3 hf3 u0 u1 u2 u3 uf v0 v1 v2 v3 vf t4 p0 p5
   go_wp2_with fail
   refine HL3.out.mono ?_
   rintro _ w4 ⟨rfl, rfl⟩
   go_wp2
   refine bodyPost_ret (v := celV nn tg lgn bb) (by simp [results, Tryz.results20, go_sem, *]) rfl ⟨by rw [Htg.out, Hlg.out], ?_⟩
   exact (((((HB3.out.setCell zbc _).setCell zbc _).setCell (by simp) _).setCell (by simp) _).setCell (by simp) _).setCell (by simp) _
end Go.Proofs.YtglbamalagacgaaGreat

namespace Go.Proofs.YtglbamalagacgaaGreat
open Go.RowKit Go.Shelf
attribute [local go_sem] Oper.semAt_some
structure NumT (s : TS) : Prop where
 a0 : 0 <= s.act
 a1 : s.act <= 100000
 t0 : 0 <= tgtM s.mv
 t1 : tgtM s.mv <= 100000
 l0 : 0 <= lgdM s.mv
 l1 : lgdM s.mv <= 100000
theorem Tab3.nums {w : World} {t : Nat} {e : Value} {s : TS} {pm : Value} {F H : List Nat} (h : Tab3 w t e s pm F H) (hl : ∀ m, s.mv = some m -> m.lg.length <= 1000) : NumT s := by
 have h1 := needK_bd (k := s.k) h.eng.sorted h.eng.ok
 have key : 0 <= tgtM s.mv /\ tgtM s.mv <= 100000 /\ 0 <= lgdM s.mv /\ lgdM s.mv <= 100000 := by
  cases hm : s.mv with
  | none => simp [tgtM, lgdM]
  | some m =>
   have hmv := h.mv
   rw [hm] at hmv
   obtain ⟨mb, e2, lb, F2, G, _, hM, _⟩ := hmv
   have h2 := needK_bd (k := m.k) hM.eng.sorted hM.eng.ok
   have h3 := hl m hm
   simp only [tgtM, lgdM]
   omega
 exact ⟨h1.1, by have := h1.2; unfold TS.act; omega, key.1, key.2.1, key.2.2.1, key.2.2.2⟩
set_option maxRecDepth 4000 in
set_option maxHeartbeats 1000000 in
theorem goesOver_any (w : World) (t : Nat) (e : Value) (s s' : TS) (pm : Value) (F H : List Nat) (fn : Nat) (lb : Array Value) (P : World -> World -> Prop) (h : Tab3 w t e s pm F H) (hn : NumT s) (hn' : NumT s') (hb : s'.b = s.b)
  (hcf : ∀ args w, (callFunc fn args).run Tryz.prog w = .ok (.enter fn args) w)
  (hcl : ∀ W, Below w.heap.size w W -> Calls Tryz.prog fn lb W fun r w' => r = .returned (.tuple #[]) /\ P W w') (hP : ∀ W w', P W w' -> ∃ pm' F' H', Tab3 w' t e s' pm' F' H') :
  Calls Tryz.prog 80 #[ptrV t, .func (.func fn) #[] lb] w fun r w' => r = .returned (.bool (decide (s.b < s'.use) && decide (s.use < s'.use))) /\ ∃ W w1, Below w.heap.size w W /\ P W w1 /\ Below w1.heap.size w1 w' := by
 have hc1 := hide (tcells_any w t e s pm F H h)
 have hu1 := hide (fun W => inUse_any W s.act (tgtM s.mv) (lgdM s.mv) s.b hn.a0 hn.a1 hn.t0 hn.t1 hn.l0 hn.l1)
 have hu2 := hide (fun W => inUse_any W s'.act (tgtM s'.mv) (lgdM s'.mv) s'.b hn'.a0 hn'.a1 hn'.t0 hn'.t1 hn'.l0 hn'.l1)
 have Hcl := hide hcl
 have Hc2 := hide (show ∀ W w', P W w' -> Calls Tryz.prog 20 #[ptrV t] w' fun r w'' => r = .returned (celV s'.act (tgtM s'.mv) (lgdM s'.mv) s'.b) /\ Below w'.heap.size w' w'' from fun W w' hp => by
  obtain ⟨pm', F', H', h'⟩ := hP W w' hp
  exact tcells_any w' t e s' pm' F' H' h')
 have Ht1 := hide (show ∀ W w' w'', P W w' -> Below w'.heap.size w' w'' -> w''.cell? ⟨t, 1, none⟩ = some (.int .i64 s.b) from fun W w' w'' hp hB => by
  obtain ⟨pm', F', H', h'⟩ := hP W w' hp
  exact (hB.cell (p := ⟨t, 1, none⟩) h'.lt).trans (by simp [World.cell?, h'.blk, hb]))
 have e1 : s.use = s.act + tgtM s.mv + lgdM s.mv := rfl
 have e2 : s'.use = s'.act + tgtM s'.mv + lgdM s'.mv := rfl
 rw [<- e1] at hu1
 rw [<- e2] at hu2
 generalize s.use = u at *
 generalize s'.use = u' at *
 generalize celV s'.act (tgtM s'.mv) (lgdM s'.mv) s'.b = cv' at *
 generalize s.act = x1 at *
 generalize tgtM s.mv = x2 at *
 generalize lgdM s.mv = x3 at *
 generalize s.b = bb at *
 clear h hn hn' hb hcl hP e1 e2
 go_enter Tryz.func80, Tryz.ntmps80
 go_wp2_with fail
 refine hc1.out.mono ?_
 rintro _ w1 ⟨rfl, hb1⟩
 go_wp2_with fail
 refine (hu1.out _).mono ?_
 rintro _ w2 ⟨rfl, hb2⟩
 have hB2 : Below w.heap.size w w2 := hb1.trans (hb2.mono hb1.size)
 have Hcl2 := hide (Hcl.out w2 hB2)
 have HB2 := hide hB2
 clear hb1 hb2 Hcl hB2 hc1 hu1
 go_wp2_with fail
 refine Hcl2.out.mono ?_
 rintro _ w3 ⟨rfl, hp3⟩
 have Hc3 := hide (Hc2.out w2 w3 hp3)
 go_wp2_with fail
 refine Hc3.out.mono ?_
 rintro _ w4 ⟨rfl, hb4⟩
 go_wp2_with fail
 refine (hu2.out _).mono ?_
 rintro _ w5 ⟨rfl, hb5⟩
 have hB5 : Below w3.heap.size w3 w5 := hb4.trans (hb5.mono hb4.size)
 have hov := hide (isOver_any w5 t bb u u' (Ht1.out w2 w3 w5 hp3 hB5))
 have fin := hide (show ∃ W w1, Below w.heap.size w W /\ P W w1 /\ Below w1.heap.size w1 w5 from ⟨w2, w3, HB2.out, hp3, hB5⟩)
 clear hb4 hb5 hB5 hp3 Hc3 Hc2 Ht1 HB2 Hcl2
 go_wp2_with fail
 refine hov.out.mono ?_
 rintro _ w6 ⟨rfl, rfl⟩
 go_wp2
 go_ret
 exact ⟨rfl, fin.out⟩
end Go.Proofs.YtglbamalagacgaaGreat

namespace Go.Proofs.YtglbamalagacgaaGreat
open Go.RowKit Go.Shelf
attribute [local go_sem] Oper.semAt_some
theorem Tab3.turn {w w' : World} {t : Nat} {e : Value} {s : TS} {m' : Mv} {mb : Nat} {e2 : Value} {lb : Nat} {F F2 G F2' G' : List Nat} (h : Tab3 w t e s (ptrV mb) F (mb :: (F2 ++ G))) (hM : MovF w' mb m' e2 lb F2' G') (hN : NewF w (mb :: (F2 ++ G)) (mb :: (F2' ++ G'))) (hO : Only (mb :: (F2 ++ G)) w w') :
  Tab3 w' t e (s.at m') (ptrV mb) F (mb :: (F2' ++ G')) :=
 ⟨(hO.block t h.lt h.nh).trans h.blk, h.eng.kept fun k hk => hO.block k (h.eng.lt k hk) (h.dj k hk), h.kind, ⟨mb, e2, lb, F2', G', rfl, hM, rfl⟩, h.nt, fun hk => (hN t hk).elim h.nh (fun h1 => by have := h.lt; omega), fun k hk hh => (hN k hh).elim (h.dj k hk) (fun h1 => by have := h.eng.lt k hk; omega)⟩
set_option maxHeartbeats 400000 in
theorem catch1_any (w : World) (t bt : Nat) (e : Value) (s : TS) (m : Mv) (mb : Nat) (e2 : Value) (lb : Nat) (F F2 G : List Nat) (a l : Int) (lg : List (Int × Int)) (h : Tab3 w t e s (ptrV mb) F (mb :: (F2 ++ G))) (hM : MovF w mb m e2 lb F2 G) (hlg : m.lg = (a, l) :: lg) (hp : isPfx a l = true) (hnd : (a, l) ∉ lg) (hn : lg.length <= 1000)
  (hbx : w.cell? ⟨bt, 0, none⟩ = some (ptrV t)) (hbt : bt ∉ mb :: (F2 ++ G)) :
  Calls Tryz.prog 83 #[ptrV bt] w fun r w' => r = .returned (.tuple #[]) /\ ∃ F2' G', Tab3 w' t e (s.at (m.catch s.xs)) (ptrV mb) F (mb :: (F2' ++ G')) /\ MovF w' mb (m.catch s.xs) e2 lb F2' G' /\ NewF w (mb :: (F2 ++ G)) (mb :: (F2' ++ G')) /\ Only (mb :: (F2 ++ G)) w w' := by
 have tl := h.lt
 have ml := hM.lt
 have bl := World.block_lt_of_cell? w _ hbx
 simp only at bl
 have heq1 : ∃ T p, e = .iface T (ptrV p) := by obtain ⟨_, _, T, p, q, _⟩ := h.eng; exact ⟨T, p, q⟩
 obtain ⟨T1, p1, rfl⟩ := heq1
 have t0 : w.cell? ⟨t, 0, none⟩ = some (.iface T1 (ptrV p1)) := by simp [World.cell?, h.blk]
 have t4 : w.cell? ⟨t, 4, none⟩ = some (ptrV mb) := by simp [World.cell?, h.blk]
 have nt : t ∉ F2 ++ G := fun hk => h.nh (by simp only [List.mem_cons]; exact .inr hk)
 have nb : bt ∉ F2 ++ G := fun hk => hbt (by simp only [List.mem_cons]; exact .inr hk)
 have hcu := hide (catchUp_any w.drew mb m e2 lb F2 G (.iface T1 (ptrV p1)) s.xs F a l lg (hM.later ((Below.refl _ w).drew)) hlg hp hnd hn (h.eng.later ((Below.refl _ w).drew)) (fun k hk hg => h.dj k hk (by simp [hg])))
 have fin := hide (show ∀ w', (∃ F' G', MovF w' mb (m.catch s.xs) e2 lb F' G' /\ NewF w.drew F2 F' /\ NewF w.drew G G') -> Only (F2 ++ G) w.drew w' -> ∃ F2' G', Tab3 w' t (.iface T1 (ptrV p1)) (s.at (m.catch s.xs)) (ptrV mb) F (mb :: (F2' ++ G')) /\ MovF w' mb (m.catch s.xs) e2 lb F2' G' /\ NewF w (mb :: (F2 ++ G)) (mb :: (F2' ++ G')) /\ Only (mb :: (F2 ++ G)) w w' from by
  rintro w' ⟨F', G', q1, q2, q3⟩ hO
  have hO' : Only (mb :: (F2 ++ G)) w w' := ⟨hO.os, hO.tape, hO.output, hO.size, fun k hk hn => hO.block k hk (fun h1 => hn (by simp only [List.mem_cons]; exact .inr h1))⟩
  have hN : NewF w (mb :: (F2 ++ G)) (mb :: (F' ++ G')) := fun k hk => by
   simp only [List.mem_cons, List.mem_append] at hk ⊢
   rcases hk with rfl | hk | hk
   ·exact .inl (.inl rfl)
   ·exact (q2 k hk).imp (fun h => .inr (.inl h)) (fun h => by simpa using h)
   ·exact (q3 k hk).imp (fun h => .inr (.inr h)) (fun h => by simpa using h)
  exact ⟨F', G', h.turn q1 hN hO', q1, hN, hO'⟩)
 clear h hM hlg
 go_enter Tryz.func83, Tryz.ntmps83
 go_wp2
 go_region_held3 (fun w' => w'.cell? ⟨bt, 0, none⟩ = some (ptrV t) /\ w'.cell? ⟨t, 0, none⟩ = some (.iface T1 (ptrV p1)) /\ w'.cell? ⟨t, 4, none⟩ = some (ptrV mb)) (go_keep)
  ((go_at_call 84; refine hcu.out.mono ?_; rintro _ w2 ⟨hF, hO, rfl⟩; (have hc1 : ∀ o, w2.cell? ⟨t, o, none⟩ = w.cell? ⟨t, o, none⟩ := fun o => hO.cell tl nt); (have hc2 : ∀ o, w2.cell? ⟨bt, o, none⟩ = w.cell? ⟨bt, o, none⟩ := fun o => hO.cell bl nb)))
 have Fin := hide (fin.out w2 hF hO)
 clear hF hO hc1 hc2 fin hcu
 go_wp2
 go_end0
 exact ⟨rfl, Fin.out⟩
end Go.Proofs.YtglbamalagacgaaGreat

namespace Go.Proofs.YtglbamalagacgaaGreat
open Go.RowKit Go.Shelf
attribute [local go_sem] Oper.semAt_some
structure CatI (w wr : World) (t : Nat) (e : Value) (s : TS) (mb : Nat) (e2 : Value) (lb bt : Nat) (F F2 G : List Nat) (m : Mv) (n i : Nat) (mi : Mv) (F2' G' : List Nat) : Prop where
 tab : Tab3 wr t e (s.at mi) (ptrV mb) F (mb :: (F2' ++ G'))
 mov : MovF wr mb mi e2 lb F2' G'
 new : NewF w (mb :: (F2 ++ G)) (mb :: (F2' ++ G'))
 only : Only (mb :: (F2 ++ G)) w wr
 run : ctRun s n m = ctRun s (n - i) mi
 ok : MvOk s mi
 ph : mi.ph = 2
 len : mi.lg.length + i = m.lg.length
 box : wr.heap[bt]? = some (.cells #[ptrV t] 40 (0, 0))
 nbt : bt ∉ mb :: (F2' ++ G')
def StPost (w : World) (t : Nat) (F H : List Nat) (c : Int) (s' : TS) (r : Ending) (w' : World) : Prop :=
 ∃ e' pm' F' H', r = .returned (.int .i64 c) /\ Tab3 w' t e' s' pm' F' H' /\ NewF w (t :: (F ++ H)) (t :: (F' ++ H')) /\ Only (t :: (F ++ H)) w w'
theorem CatI.next {w wr W w1 w5 : World} {t : Nat} {e : Value} {s : TS} {mb : Nat} {e2 : Value} {lb bt : Nat} {F F2 G : List Nat} {m : Mv} {n i : Nat} {mi : Mv} {F2' G' F2'' G'' : List Nat} (h : CatI w wr t e s mb e2 lb bt F F2 G m n i mi F2' G') (hs : s.Ok) (hi : i < n) (hnl : n <= m.lg.length)
  (hov : ¬ (s.at mi).over (s.at (mi.catch s.xs))) (hW : Below wr.heap.size wr W) (h1 : Tab3 w1 t e (s.at (mi.catch s.xs)) (ptrV mb) F (mb :: (F2'' ++ G''))) (h2 : MovF w1 mb (mi.catch s.xs) e2 lb F2'' G'') (h3 : NewF W (mb :: (F2' ++ G')) (mb :: (F2'' ++ G''))) (h4 : Only (mb :: (F2' ++ G')) W w1) (h5 : Below w1.heap.size w1 w5) :
  CatI w w5 t e s mb e2 lb bt F F2 G m n (i + 1) (mi.catch s.xs) F2'' G'' := by
 have hsz := hW.size
 have hlg : mi.lg ≠ [] := fun h0 => by have := h.len; rw [h0] at this; simp at this; omega
 have hbl := (Array.getElem?_eq_some_iff.1 h.box).1
 have hnb : bt ∉ mb :: (F2'' ++ G'') := fun hk => (h3 bt hk).elim h.nbt (fun h1 => by omega)
 have hO1 : Only (mb :: (F2 ++ G)) w w5 := by
  have q : Only (mb :: (F2' ++ G')) wr w5 := ((Only.of_below _ hW).trans h4 (fun x hx => .inl hx)).trans (Only.of_below [] h5) (by simp)
  exact h.only.trans q h.new
 refine ⟨h1.later h5, h2.later h5, ?_, hO1, ?_, h.ok.catch hs.ok h.ph, ?_, ?_, ?_, hnb⟩
 ·intro k hk
  rcases h3 k hk with h6 | h6
  ·exact h.new k h6
  ·have := h.only.size; exact .inr (by omega)
 ·rw [h.run, show n - i = (n - (i + 1)) + 1 by omega, ctRun, if_neg hov]
 ·unfold Mv.catch; split <;> exact h.ph
 ·unfold Mv.catch
  cases hc : mi.lg with
  | nil => exact absurd hc hlg
  | cons p lg => have := h.len; rw [hc] at this; simp at this ⊢; omega
 ·exact ((h5.block bt (by have := h4.size; omega)).trans (h4.block bt (by omega) h.nbt)).trans ((hW.block bt hbl).trans h.box)
set_option maxRecDepth 4000 in
set_option maxHeartbeats 2000000 in
theorem catchChunk_any (w : World) (t : Nat) (e : Value) (s : TS) (m : Mv) (pm : Value) (F H : List Nat) (h : Tab3 w t e s pm F H) (hs : s.Ok) (hm : s.mv = some m) (h2 : m.ph = 2) :
  Calls Tryz.prog 47 #[ptrV t] w (StPost w t F H (ctRun s (min s.ch.toNat m.lg.length) m).1 (ctRun s (min s.ch.toNat m.lg.length) m).2) := by
 have hmv := h.mv
 rw [hm] at hmv
 obtain ⟨mb, e2, lb, F2, G, rfl, hM, rfl⟩ := hmv
 obtain ⟨hmo, hml⟩ := hs.mv m hm
 have hl16 := hs.l16
 have hch1 := hs.ch1
 have hch8 := hs.ch8
 have tl := h.lt
 have ml := hM.lt
 obtain ⟨n, hn⟩ : ∃ n, n = min s.ch.toNat m.lg.length := ⟨_, rfl⟩
 have hif : (if ((m.lg.length : Nat) : Int) < s.ch then ((m.lg.length : Nat) : Int) else s.ch) = (n : Int) := by split <;> omega
 have hnl : n <= m.lg.length := by omega
 rw [<- hn]
 have t2 : w.cell? ⟨t, 2, none⟩ = some (.int .i64 s.ch) := by simp [World.cell?, h.blk]
 have t4 : w.cell? ⟨t, 4, none⟩ = some (ptrV mb) := by simp [World.cell?, h.blk]
 have p5 : w.cell? ⟨mb, 5, none⟩ = some (ptrV lb) := by simp [World.cell?, hM.blk]
 have tl1 : t < w.heap.size + 1 := by omega
 have ml1 : mb < w.heap.size + 1 := by omega
 have hB1 : Below w.heap.size w (w.alloc (Obj.cells #[ptrV t] 40)) := (Below.refl _ w).alloc (Nat.le_refl _) _
 have hsz := hide (logSize_any (w.alloc (Obj.cells #[ptrV t] 40)).drew lb m.lg G (hM.log.later hB1.drew))
 have hHl := h.mv.lt
 have HI0 := hide (show CatI w (w.alloc (Obj.cells #[ptrV t] 40)).drew t e s mb e2 lb w.heap.size F F2 G m n 0 m F2 G from
  ⟨by rw [TS.at_same hm]; exact h.later hB1.drew, hM.later hB1.drew, NewF.refl _ _, Only.of_below _ hB1.drew, rfl, hmo, h2, by omega, World.alloc_heap_new w _, fun hk => by have := hHl _ hk; omega⟩)
 have hlgn : (m.lg.length : Int) <= 16 := by omega
 have HT := hide h
 have HS := hide hs
 clear h hM hmo hB1 h2 hm
 go_enter Tryz.func47, Tryz.ntmps47
 go_wp2
 go_region_held3 (fun w' => w'.cell? ⟨w.heap.size, 0, none⟩ = some (ptrV t) /\ w'.cell? ⟨t, 2, none⟩ = some (.int .i64 s.ch) /\ w'.cell? ⟨t, 4, none⟩ = some (ptrV mb) /\ w'.cell? ⟨mb, 5, none⟩ = some (ptrV lb)) (go_keep)
  ((go_at_call 49; refine hsz.out.mono ?_; rintro _ w2 ⟨rfl, rfl⟩))
 try rw [hif]
 go_wp2
 go_loopw [16] (fun sl wr => ∃ (i : Nat) (mi : Mv) (F2' G' : List Nat), i <= n /\ sl = .int .i64 (i : Int) /\ Hid (CatI w wr t e s mb e2 lb w.heap.size F F2 G m n i mi F2' G')) (fun s _ => n - (intOf s).toNat)
 case atStart => exact ⟨0, m, F2, G, Nat.zero_le _, rfl, HI0⟩
 case round =>
  obtain ⟨i, mi, F2', G', hi, rfl, HI⟩ := hrel
  have hwr : IntKind.i64.wrap ((i : Int) + 1) = (i : Int) + 1 := by rw [IntKind.wrap_i64]; omega
  have b0 : wr.cell? ⟨w.heap.size, 0, none⟩ = some (ptrV t) := by simp [World.cell?, HI.out.box]
  by_cases hlt : i < n
  ·have j1 : (i : Int) < (n : Int) := by omega
   obtain ⟨⟨pa, pl⟩, lg, hlg⟩ : ∃ p lg, mi.lg = p :: lg := by
    cases hc : mi.lg with
    | nil => have := HI.out.len; rw [hc] at this; simp at this; omega
    | cons p lg => exact ⟨p, lg, rfl⟩
   have hlen : lg.length <= 1000 := by have := HI.out.len; rw [hlg] at this; simp at this; omega
   have hpf : isPfx pa pl = true := HI.out.ok.pfx (pa, pl) (by rw [hlg]; simp)
   have hnd : (pa, pl) ∉ lg := by have := HI.out.ok.nodup; rw [hlg] at this; exact (List.nodup_cons.1 this).1
   have hcn : (mi.catch s.xs).lg.length <= 1000 := by unfold Mv.catch; rw [hlg]; simpa using hlen
   have hin : mi.lg.length <= 1000 := by rw [hlg]; simp; have := HI.out.len; rw [hlg] at this; simp at this; omega
   have hok2 := HI.out.ok.catch HS.out.ok HI.out.ph
   have hn1 := HI.out.tab.nums (fun m' hm' => by cases hm'; exact hin)
   have hn2 : NumT (s.at (mi.catch s.xs)) := by
    have a1 := needK_bd (k := (mi.catch s.xs).k) hok2.sorted hok2.ok
    exact ⟨hn1.a0, hn1.a1, a1.1, by show needK (mi.catch s.xs).k (mi.catch s.xs).ys <= 100000; omega, by show (0 : Int) <= ((mi.catch s.xs).lg.length : Nat); omega, by show (((mi.catch s.xs).lg.length : Nat) : Int) <= 100000; omega⟩
   have hgo := hide (goesOver_any wr t e (s.at mi) (s.at (mi.catch s.xs)) (ptrV mb) F (mb :: (F2' ++ G')) 83 #[ptrV w.heap.size]
    (fun W w1 => ∃ F2'' G'', Tab3 w1 t e (s.at (mi.catch s.xs)) (ptrV mb) F (mb :: (F2'' ++ G'')) /\ MovF w1 mb (mi.catch s.xs) e2 lb F2'' G'' /\ NewF W (mb :: (F2' ++ G')) (mb :: (F2'' ++ G'')) /\ Only (mb :: (F2' ++ G')) W w1)
    HI.out.tab hn1 hn2 rfl (enters_of Tryz.func83 (by kernel_rfl) rfl)
    (fun W hW => catch1_any W t w.heap.size e (s.at mi) mi mb e2 lb F F2' G' pa pl lg (HI.out.tab.later hW) (HI.out.mov.later hW) hlg hpf hnd hlen ((hW.cell (p := ⟨w.heap.size, 0, none⟩) (Array.getElem?_eq_some_iff.1 HI.out.box).1).trans b0) HI.out.nbt)
    (fun W w1 ⟨F2'', G'', h1, _⟩ => ⟨_, _, _, h1⟩))
   by_cases hov : (s.at mi).over (s.at (mi.catch s.xs))
   ·have hd : (decide ((s.at mi).b < (s.at (mi.catch s.xs)).use) && decide ((s.at mi).use < (s.at (mi.catch s.xs)).use)) = true := by rw [decide_eq_true hov.1, decide_eq_true hov.2]; rfl
    rw [hd] at hgo
    have hrun : ctRun s n m = (4, s.back) := by rw [HI.out.run, show n - i = (n - (i + 1)) + 1 by omega, ctRun, if_pos hov]
    have Hrun := hide hrun
    clear hrun hn1 hn2 hok2 hov hd hin hcn hlen hnd hpf hlg
    go_wp2_with fail
    refine hgo.out.mono ?_
    rintro _ w5 ⟨rfl, W, w1, hW, ⟨F2'', G'', q1, q2, q3, q4⟩, hb5⟩
    have hO5 : Only (mb :: (F2' ++ G')) wr w5 := ((Only.of_below _ hW).trans q4 (fun x hx => .inl hx)).trans (Only.of_below [] hb5) (by simp)
    have hT5 := q1.later hb5
    have b5 : w5.cell? ⟨w.heap.size, 0, none⟩ = some (ptrV t) := (hO5.cell (Array.getElem?_eq_some_iff.1 HI.out.box).1 HI.out.nbt).trans b0
    have hrb := hide (rollBack_any w5 t e _ _ F _ hT5 ⟨_, rfl⟩)
    have fin := hide (show ∀ w6, Tab3 w6 t e s.back (.pointer none) F [] -> Only [t] w5 w6 -> StPost w t F (mb :: (F2 ++ G)) (ctRun s n m).1 (ctRun s n m).2 (.returned (.int .i64 4)) w6 from fun w6 h6 hO6 => by
     rw [Hrun.out]
     have hOw : Only (mb :: (F2 ++ G)) w w5 := HI.out.only.trans hO5 HI.out.new
     refine ⟨e, .pointer none, F, [], rfl, h6, fun k hk => .inl ?_, ?_⟩
     ·simp at hk ⊢
      rcases hk with rfl | hk
      ·exact .inl rfl
      ·exact .inr (.inl hk)
     ·refine ⟨hO6.os.trans hOw.os, hO6.tape.trans hOw.tape, hO6.output.trans hOw.output, Nat.le_trans hOw.size hO6.size, fun k hk hn => ?_⟩
      exact (hO6.block k (by have := hOw.size; omega) (fun h7 => hn (by simp at h7; simp [h7]))).trans (hOw.block k hk (fun h7 => hn (by simp only [List.mem_cons, List.mem_append] at h7 ⊢; exact .inr (.inr h7)))))
    clear hgo q1 q2 q3 q4 hb5 hW hO5 hT5 HI
    go_wp2_with fail
    refine hrb.out.mono ?_
    rintro _ w6 ⟨h6, hO6, rfl⟩
    have Fin := hide (fin.out w6 h6 hO6)
    clear h6 hO6 fin hrb
    go_wp2
    go_ret
    exact Fin.out
   ·have hd : (decide ((s.at mi).b < (s.at (mi.catch s.xs)).use) && decide ((s.at mi).use < (s.at (mi.catch s.xs)).use)) = false := by
     unfold TS.over at hov
     rw [Bool.and_eq_false_iff, decide_eq_false_iff_not, decide_eq_false_iff_not]
     omega
    rw [hd] at hgo
    have Hov := hide hov
    clear hn1 hn2 hok2 hov hd hin hcn hlen hnd hpf hlg
    go_wp2_with fail
    refine hgo.out.mono ?_
    rintro _ w5 ⟨rfl, W, w1, hW, ⟨F2'', G'', q1, q2, q3, q4⟩, hb5⟩
    have next := hide (show ∃ (i' : Nat) (mi : Mv) (F2' G' : List Nat), i' <= n /\ Value.int .i64 ((i : Int) + 1) = .int .i64 (i' : Int) /\ Hid (CatI w w5 t e s mb e2 lb w.heap.size F F2 G m n i' mi F2' G') from
     ⟨i + 1, _, F2'', G'', by omega, by simp, HI.out.next HS.out hlt hnl Hov.out hW q1 q2 q3 q4 hb5⟩)
    clear hgo q1 q2 q3 q4 hb5 hW HI
    go_wp2
    exact ⟨next.out, by show n - ((i : Int) + 1).toNat < n - (i : Int).toNat; omega⟩
  ·obtain rfl : i = n := by omega
   have hnlt : ¬ (i : Int) < (i : Int) := by omega
   have t4' : wr.cell? ⟨t, 4, none⟩ = some (ptrV mb) := by simp [World.cell?, HI.out.tab.blk]
   have p5' : wr.cell? ⟨mb, 5, none⟩ = some (ptrV lb) := by simp [World.cell?, HI.out.mov.blk]
   have hsz2 := hide (logSize_any wr lb mi.lg G' HI.out.mov.log)
   have hrun : ctRun s i m = if mi.lg = [] then (3, s.cut mi) else (2, s.at mi) := by rw [HI.out.run, Nat.sub_self, ctRun]
   by_cases he : mi.lg = []
   ·rw [if_pos he] at hrun
    have Hrun := hide hrun
    have hl0 : ((mi.lg.length : Nat) : Int) = 0 := by rw [he]; rfl
    rw [hl0] at hsz2
    have hcu := hide (cutOver_any wr t e (s.at mi) mi mb e2 lb F F2' G' HI.out.tab HI.out.mov)
    have fin := hide (show ∀ w6, Tab3 w6 t e2 (s.cut mi) (.pointer none) F2' [] -> Only [t] wr w6 -> StPost w t F (mb :: (F2 ++ G)) (ctRun s i m).1 (ctRun s i m).2 (.returned (.int .i64 3)) w6 from fun w6 h6 hO6 => by
     rw [Hrun.out]
     have hOw := HI.out.only
     refine ⟨e2, .pointer none, F2', [], rfl, h6, fun k hk => ?_, ?_⟩
     ·simp at hk ⊢
      rcases hk with rfl | hk
      ·exact .inl (.inl rfl)
      ·rcases HI.out.new k (by simp [hk]) with h7 | h7
       ·simp at h7
        exact .inl (.inr (.inr h7))
       ·exact .inr h7
     ·refine ⟨hO6.os.trans hOw.os, hO6.tape.trans hOw.tape, hO6.output.trans hOw.output, Nat.le_trans hOw.size hO6.size, fun k hk hn => ?_⟩
      exact (hO6.block k (by have := hOw.size; omega) (fun h7 => hn (by simp at h7; simp [h7]))).trans (hOw.block k hk (fun h7 => hn (by simp only [List.mem_cons, List.mem_append] at h7 ⊢; exact .inr (.inr h7)))))
    clear hrun he hl0 HI
    go_wp2_with fail
    refine hsz2.out.mono ?_
    rintro _ w5 ⟨rfl, rfl⟩
    go_wp2_with fail
    refine hcu.out.mono ?_
    rintro _ w6 ⟨h6, hO6, rfl⟩
    have Fin := hide (fin.out w6 h6 hO6)
    clear h6 hO6 fin hcu
    go_wp2
    go_ret
    exact Fin.out
   ·rw [if_neg he] at hrun
    have Hrun := hide hrun
    have hl0 : (0 : Int) < ((mi.lg.length : Nat) : Int) := by
     cases hc : mi.lg with
     | nil => exact absurd hc he
     | cons p lg => simp
    have fin := hide (show StPost w t F (mb :: (F2 ++ G)) (ctRun s i m).1 (ctRun s i m).2 (.returned (.int .i64 2)) wr from by
     rw [Hrun.out]
     have hOw := HI.out.only
     refine ⟨e, ptrV mb, F, mb :: (F2' ++ G'), rfl, HI.out.tab, fun k hk => ?_, ?_⟩
     ·rcases List.mem_cons.1 hk with rfl | hk
      ·exact .inl (by simp)
      ·rcases List.mem_append.1 hk with hk | hk
       ·exact .inl (by simp [hk])
       ·exact (HI.out.new k hk).imp (fun h => by simp only [List.mem_cons, List.mem_append] at h ⊢; exact .inr (.inr h)) id
     ·exact ⟨hOw.os, hOw.tape, hOw.output, hOw.size, fun k hk hn => hOw.block k hk (fun h7 => hn (by simp only [List.mem_cons, List.mem_append] at h7 ⊢; exact .inr (.inr h7)))⟩)
    clear hrun he HI
    go_wp2_with fail
    refine hsz2.out.mono ?_
    rintro _ w5 ⟨rfl, rfl⟩
    go_wp2
    go_ret
    exact fin.out
end Go.Proofs.YtglbamalagacgaaGreat

import Derived.Test.YtglbamalagacgaaGreatL2
import Derived.Test.YtglbamalagacgaaGreatS2
import Derived.Test.YtglbamalagacgaaGreatT1
namespace Go.Proofs.YtglbamalagacgaaGreat
open Go.RowKit Go.Shelf
attribute [local go_sem] Oper.semAt_some
theorem getE_memS {xs : List Ent} {a l v : Int} (h : getE xs a l = some v) : ∃ y ∈ xs, y.a = a /\ y.l = l /\ y.n = v := by
 induction xs with
 | nil => cases h
 | cons x xs ih =>
  rw [getE] at h
  split at h
  ·rename_i he
   cases h
   exact ⟨x, by simp, he.1, he.2, rfl⟩
  ·obtain ⟨y, h1, h2⟩ := ih h
   exact ⟨y, by simp [h1], h2⟩
theorem getE_of_memS {xs : List Ent} (hs : Sorted xs) {x : Ent} (hx : x ∈ xs) : getE xs x.a x.l = some x.n := by
 induction xs with
 | nil => cases hx
 | cons y ys ih =>
  obtain ⟨h1, h2⟩ := sorted_tail hs
  rw [getE]
  rcases List.mem_cons.1 hx with rfl | hx
  ·rw [if_pos ⟨rfl, rfl⟩]
  ·have := h2 x hx
   rw [if_neg (by unfold klt at this; omega)]
   exact ih h1 hx
theorem rank_nat {a l : Int} (h : isPfx a l = true) : ∃ k : Nat, k < 2304 /\ 9 * a + l = (k : Int) /\ (9 * a + l).toNat = k := by
 have := (isPfx_iff _ _).1 h
 exact ⟨(9 * a + l).toNat, by omega, by omega, rfl⟩
def ranks (xs : List Ent) : List Nat := xs.map fun x => (9 * x.a + x.l).toNat
theorem ranks_lt {xs : List Ent} (hs : Sorted xs) (hk : ∀ x ∈ xs, okE x) : (ranks xs).Pairwise (· < ·) := by
 induction xs with
 | nil => exact List.Pairwise.nil
 | cons x xs ih =>
  obtain ⟨h1, h2⟩ := sorted_tail hs
  refine List.pairwise_cons.2 ⟨fun k hk' => ?_, ih h1 fun y hy => hk y (by simp [hy])⟩
  obtain ⟨y, hy, rfl⟩ := List.mem_map.1 hk'
  have q1 := (isPfx_iff _ _).1 (hk x (by simp)).1
  have q2 := (isPfx_iff _ _).1 (hk y (by simp [hy])).1
  have q3 := h2 y hy
  unfold klt at q3
  show (9 * x.a + x.l).toNat < (9 * y.a + y.l).toNat
  omega
end Go.Proofs.YtglbamalagacgaaGreat

namespace Go.Proofs.YtglbamalagacgaaGreat
open Go.RowKit Go.Shelf
attribute [local go_sem] Oper.semAt_some
abbrev staV (a b c d e f : Int) : Value := .agg #[.int .i64 a, .int .i64 b, .int .i64 c, .int .i64 d, .int .i64 e, .int .i64 f]
abbrev staC (a b c d e f : Int) : Obj := .cells #[.int .i64 a, .int .i64 b, .int .i64 c, .int .i64 d, .int .i64 e, .int .i64 f] 39
def knM : Option Mv -> Int
 | none => 0
 | some m => m.k
def phM : Option Mv -> Int
 | none => 0
 | some m => m.ph
def cpM : Option Mv -> Int
 | none => 0
 | some m => m.cp
structure StaI (w w' : World) (bc : Nat) (a e f : Int) : Prop where
 below : Below w.heap.size w w'
 box : w'.heap[bc]? = some (staC a 0 0 0 e f)
 res : w'.heap[w.heap.size]? = some (staC 0 0 0 0 0 0)
 ne : w.heap.size < bc
theorem sta_alloc {w w2 : World} {a e f : Int} (hb : Below (w.alloc (staC 0 0 0 0 0 0)).drew.heap.size (w.alloc (staC 0 0 0 0 0 0)).drew w2) : StaI w (w2.alloc (staC a 0 0 0 e f)) w2.heap.size a e f := by
 have hs := hb.size
 simp at hs
 have hB : Below w.heap.size w w2 := ((Below.refl _ w).alloc (Nat.le_refl _) _).drew.trans (hb.mono (by simp))
 refine ⟨hB.alloc (by omega) _, World.alloc_heap_new w2 _, ?_, by omega⟩
 exact ((Below.heap_alloc w2 _ _ (by omega)).trans (hb.block _ (by simp))).trans (World.alloc_heap_new w _)
theorem sta_store {w w2 : World} {a e f : Int} (hb : Below ((w.alloc (staC 0 0 0 0 0 0)).alloc (staC 0 0 0 0 0 0)).drew.heap.size ((w.alloc (staC 0 0 0 0 0 0)).alloc (staC 0 0 0 0 0 0)).drew w2) :
  StaI w ((((((w2.setCell ⟨w.heap.size + 1, 0, none⟩ (.int .i64 a)).setCell ⟨w.heap.size + 1, 1, none⟩ (.int .i64 0)).setCell ⟨w.heap.size + 1, 2, none⟩ (.int .i64 0)).setCell ⟨w.heap.size + 1, 3, none⟩ (.int .i64 0)).setCell ⟨w.heap.size + 1, 4, none⟩ (.int .i64 e)).setCell ⟨w.heap.size + 1, 5, none⟩ (.int .i64 f)) (w.heap.size + 1) a e f := by
 have hs := hb.size
 simp at hs
 have hB : Below w.heap.size w w2 := (((Below.refl _ w).alloc (Nat.le_refl _) _).alloc (by simp) _).drew.trans (hb.mono (by simp; omega))
 have h1 : w2.heap[w.heap.size + 1]? = some (staC 0 0 0 0 0 0) := by
  refine (hb.block _ (by simp)).trans ?_
  have := World.alloc_heap_new (w.alloc (staC 0 0 0 0 0 0)) (staC 0 0 0 0 0 0)
  rwa [World.size_alloc] at this
 obtain ⟨a1, a2, a3⟩ := setT h1 0 (.int .i64 a)
 obtain ⟨b1, b2, b3⟩ := setT a1 1 (.int .i64 0)
 obtain ⟨c1, c2, c3⟩ := setT b1 2 (.int .i64 0)
 obtain ⟨d1, d2, d3⟩ := setT c1 3 (.int .i64 0)
 obtain ⟨e1, e2, e3⟩ := setT d1 4 (.int .i64 e)
 obtain ⟨f1, f2, f3⟩ := setT e1 5 (.int .i64 f)
 refine ⟨(((((hB.setCell (by simp) _).setCell (by simp) _).setCell (by simp) _).setCell (by simp) _).setCell (by simp) _).setCell (by simp) _, f1, ?_, by omega⟩
 refine (((((((f2 _ (by omega)).trans (e2 _ (by omega))).trans (d2 _ (by omega))).trans (c2 _ (by omega))).trans (b2 _ (by omega))).trans (a2 _ (by omega))).trans (hb.block _ (by simp; omega))).trans ?_
 exact (Below.heap_alloc _ _ _ (by simp)).trans (World.alloc_heap_new w _)
set_option maxRecDepth 4000 in
set_option maxHeartbeats 2000000 in
theorem tstate_any (w : World) (t : Nat) (e : Value) (s : TS) (pm : Value) (F H : List Nat) (h : Tab3 w t e s pm F H) :
  Calls Tryz.prog 16 #[ptrV t] w fun r w' => r = .returned (staV s.k (knM s.mv) (phM s.mv) (cpM s.mv) s.ms s.bs) /\ Below w.heap.size w w' := by
 have tl := h.lt
 have hE := h.eng
 have heq1 : ∃ T p, e = .iface T (ptrV p) := by obtain ⟨_, _, T, p, q, _⟩ := h.eng; exact ⟨T, p, q⟩
 have t0 : w.cell? ⟨t, 0, none⟩ = some e := by simp [World.cell?, h.blk]
 have t5 : w.cell? ⟨t, 5, none⟩ = some (.int .i64 s.ms) := by simp [World.cell?, h.blk]
 have t6 : w.cell? ⟨t, 6, none⟩ = some (.int .i64 s.bs) := by simp [World.cell?, h.blk]
 have tn : t ≠ w.heap.size := by omega
 have tn' : w.heap.size ≠ t := by omega
 have tl1 : t < w.heap.size + 1 := by omega
 have tl2 : t < w.heap.size + 1 + 1 := by omega
 have tn2 : t ≠ w.heap.size + 1 := by omega
 have tn2' : w.heap.size + 1 ≠ t := by omega
 have Hkd := hide (show ∀ W, Below w.heap.size w W -> Calls Tryz.prog 45 #[e] W fun r w' => r = .returned (.int .i64 s.k) /\ Below W.heap.size W w' from fun W hW => by
  have := kind_any e s.xs F W (hE.later hW)
  rwa [h.kind] at this)
 have HT := hide h
 generalize s.k = kk at *
 generalize s.ms = ms at *
 generalize s.bs = bs at *
 obtain ⟨T, p, rfl⟩ := heq1
 clear hE h
 go_enter Tryz.func16, Tryz.ntmps16
 go_wp2
 go_cut [3] from 4 to 48 (fun sl w' => ∃ bc, sl = ptrV bc /\ StaI w w' bc kk ms bs)
 case first =>
  go_region_held3 (fun w' => w'.cell? ⟨t, 0, none⟩ = some (.iface T (ptrV p)) /\ w'.cell? ⟨t, 5, none⟩ = some (.int .i64 ms) /\ w'.cell? ⟨t, 6, none⟩ = some (.int .i64 bs)) (go_keep)
   ((go_at_call 45; refine (Hkd.out _ (by repeat (first | exact Below.refl _ _ | refine below_drewN ?_ _ | refine Below.drew ?_ | refine Below.trans ?_ (Below.mono (by assumption) ?_) | refine Below.alloc ?_ ?_ _ | refine Below.setCell ?_ ?_ _ | omega | (simp; omega) | simp))).mono ?_; rintro _ w2 ⟨rfl, hb2⟩; have hc2 := (bcell hb2).1; have hf2 := (bcell hb2).2))
  all_goals
   first
    | (have fin := hide (sta_alloc (w := w) (a := kk) (e := ms) (f := bs) hb2))
    | (have fin := hide (sta_store (w := w) (a := kk) (e := ms) (f := bs) hb2))
   clear hb2 hc2 hf2
   go_wp2_with fail
   go_meet
   exact ⟨_, rfl, fin.out⟩
 case rest =>
  obtain ⟨bc, rfl, hC⟩ := hcut
  have hB := hC.below
  have hsz := hB.size
  have q0 : ∀ o, wc.cell? ⟨t, o, none⟩ = w.cell? ⟨t, o, none⟩ := fun o => hB.cell (p := ⟨t, o, none⟩) tl
  have u0 : wc.cell? ⟨bc, 0, none⟩ = some (.int .i64 kk) := by simp [World.cell?, hC.box]
  have u1 : wc.cell? ⟨bc, 1, none⟩ = some (.int .i64 0) := by simp [World.cell?, hC.box]
  have u2 : wc.cell? ⟨bc, 2, none⟩ = some (.int .i64 0) := by simp [World.cell?, hC.box]
  have u3 : wc.cell? ⟨bc, 3, none⟩ = some (.int .i64 0) := by simp [World.cell?, hC.box]
  have u4 : wc.cell? ⟨bc, 4, none⟩ = some (.int .i64 ms) := by simp [World.cell?, hC.box]
  have u5 : wc.cell? ⟨bc, 5, none⟩ = some (.int .i64 bs) := by simp [World.cell?, hC.box]
  have uf : ∀ o, wc.frozen? ⟨bc, o, none⟩ = false := fun o => by simp [World.frozen?, hC.box]
  have v0 : wc.cell? ⟨w.heap.size, 0, none⟩ = some (.int .i64 0) := by simp [World.cell?, hC.res]
  have v1 : wc.cell? ⟨w.heap.size, 1, none⟩ = some (.int .i64 0) := by simp [World.cell?, hC.res]
  have v2 : wc.cell? ⟨w.heap.size, 2, none⟩ = some (.int .i64 0) := by simp [World.cell?, hC.res]
  have v3 : wc.cell? ⟨w.heap.size, 3, none⟩ = some (.int .i64 0) := by simp [World.cell?, hC.res]
  have v4 : wc.cell? ⟨w.heap.size, 4, none⟩ = some (.int .i64 0) := by simp [World.cell?, hC.res]
  have v5 : wc.cell? ⟨w.heap.size, 5, none⟩ = some (.int .i64 0) := by simp [World.cell?, hC.res]
  have vf : ∀ o, wc.frozen? ⟨w.heap.size, o, none⟩ = false := fun o => by simp [World.frozen?, hC.res]
  have ne1 : ¬ (bc = w.heap.size) := by have := hC.ne; omega
  have ne2 : ¬ (w.heap.size = bc) := by have := hC.ne; omega
  have ne3 : ¬ (bc = t) := by have := hC.ne; omega
  have ne4 : ¬ (t = bc) := by have := hC.ne; omega
  have HB := hide hB
  rcases (show s.mv = none ∨ ∃ m, s.mv = some m by cases s.mv with | none => exact .inl rfl | some m => exact .inr ⟨m, rfl⟩) with hmv | ⟨m, hmv⟩
  ·have hpm := HT.out.mv
   rw [hmv] at hpm
   have t4 : wc.cell? ⟨t, 4, none⟩ = some (.pointer none) := (q0 4).trans (by simp [World.cell?, HT.out.blk, hpm.1])
   have Hmv := hide hmv
   clear hC hB HT hpm Hkd q0 hmv
   go_wp2
   refine bodyPost_ret (v := staV kk 0 0 0 ms bs) (by simp [results, Tryz.results16, go_sem, *]) rfl ⟨by rw [Hmv.out]; rfl, ?_⟩
   exact (((((HB.out.setCell (by simp) _).setCell (by simp) _).setCell (by simp) _).setCell (by simp) _).setCell (by simp) _).setCell (by simp) _
  ·have hpm := HT.out.mv
   rw [hmv] at hpm
   obtain ⟨mb, e2, lb, F2, G, rfl, hM, hH⟩ := hpm
   have ml := hM.lt
   have t4 : wc.cell? ⟨t, 4, none⟩ = some (ptrV mb) := (q0 4).trans (by simp [World.cell?, HT.out.blk])
   have p0 : wc.cell? ⟨mb, 0, none⟩ = some e2 := (hB.cell (p := ⟨mb, 0, none⟩) ml).trans (by simp [World.cell?, hM.blk])
   have p1 : wc.cell? ⟨mb, 1, none⟩ = some (.int .i64 m.ph) := (hB.cell (p := ⟨mb, 1, none⟩) ml).trans (by simp [World.cell?, hM.blk])
   have p2 : wc.cell? ⟨mb, 2, none⟩ = some (.int .i64 m.cp) := (hB.cell (p := ⟨mb, 2, none⟩) ml).trans (by simp [World.cell?, hM.blk])
   have Hk2 := hide (kind_any e2 m.ys F2 wc (hM.eng.later hB))
   have hkd := hM.kind
   rw [hkd] at Hk2
   have heq2 : ∃ T p, e2 = .iface T (ptrV p) := by obtain ⟨_, _, T, p, q, _⟩ := hM.eng; exact ⟨T, p, q⟩
   obtain ⟨T2, p2', rfl⟩ := heq2
   have ne5 : ¬ (mb = bc) := by have := hC.ne; have := ml; omega
   have ne6 : ¬ (bc = mb) := by have := hC.ne; have := ml; omega
   have zb : bc < wc.heap.size := (Array.getElem?_eq_some_iff.1 hC.box).1
   have zr : w.heap.size < wc.heap.size := (Array.getElem?_eq_some_iff.1 hC.res).1
   have zbc : w.heap.size <= bc := Nat.le_of_lt hC.ne
   have zt : t < wc.heap.size := by omega
   have zm : mb < wc.heap.size := by have := ml; omega
   have Hmv := hide (show knM s.mv = m.k /\ phM s.mv = m.ph /\ cpM s.mv = m.cp by rw [hmv]; exact ⟨rfl, rfl, rfl⟩)
   generalize m.k = mk at *
   generalize m.ph = mp at *
   generalize m.cp = mc at *
   clear hC hB HT hM Hkd q0 hkd hmv
   go_wp2_with fail
   refine Hk2.out.mono ?_
   rintro _ w3 ⟨rfl, hb3⟩
   have hc3 : ∀ b o, b < wc.heap.size -> w3.cell? ⟨b, o, none⟩ = wc.cell? ⟨b, o, none⟩ := fun b o hb => hb3.cell (p := ⟨b, o, none⟩) hb
   have hf3 : ∀ b o, b < wc.heap.size -> w3.frozen? ⟨b, o, none⟩ = wc.frozen? ⟨b, o, none⟩ := fun b o hb => hb3.frozen (p := ⟨b, o, none⟩) hb
   have x0 := (hc3 t 4 zt).trans t4
   have x1 := (hc3 mb 1 zm).trans p1
   have x2 := (hc3 mb 2 zm).trans p2
   have y0 := (hc3 bc 0 zb).trans u0
   have y1 := (hc3 bc 1 zb).trans u1
   have y2 := (hc3 bc 2 zb).trans u2
   have y3 := (hc3 bc 3 zb).trans u3
   have y4 := (hc3 bc 4 zb).trans u4
   have y5 := (hc3 bc 5 zb).trans u5
   have yf : ∀ o, w3.frozen? ⟨bc, o, none⟩ = false := fun o => (hf3 bc o zb).trans (uf o)
   have r0 := (hc3 w.heap.size 0 zr).trans v0
   have r1 := (hc3 w.heap.size 1 zr).trans v1
   have r2 := (hc3 w.heap.size 2 zr).trans v2
   have r3 := (hc3 w.heap.size 3 zr).trans v3
   have r4 := (hc3 w.heap.size 4 zr).trans v4
   have r5 := (hc3 w.heap.size 5 zr).trans v5
   have rf : ∀ o, w3.frozen? ⟨w.heap.size, o, none⟩ = false := fun o => (hf3 w.heap.size o zr).trans (vf o)
   have HB3 := hide (HB.out.trans (hb3.mono HB.out.size))
   clear hb3 Hk2 hc3 hf3 u0 u1 u2 u3 u4 u5 uf v0 v1 v2 v3 v4 v5 vf t4 p0 p1 p2
   go_wp2
   refine bodyPost_ret (v := staV kk mk mp mc ms bs) (by simp [results, Tryz.results16, go_sem, *]) rfl ⟨by rw [Hmv.out.1, Hmv.out.2.1, Hmv.out.2.2], ?_⟩
   exact ((((((((HB3.out.setCell zbc _).setCell zbc _).setCell zbc _).setCell (by simp) _).setCell (by simp) _).setCell (by simp) _).setCell (by simp) _).setCell (by simp) _).setCell (by simp) _
end Go.Proofs.YtglbamalagacgaaGreat

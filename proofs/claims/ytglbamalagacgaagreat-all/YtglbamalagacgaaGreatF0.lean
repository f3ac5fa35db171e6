import Derived.Test.YtglbamalagacgaaGreatA9
import Derived.Test.YtglbamalagacgaaGreatB2
import Derived.Test.YtglbamalagacgaaGreatI3
import Derived.Test.YtglbamalagacgaaGreatS2
import Derived.Test.YtglbamalagacgaaGreatT2
namespace Go.Proofs.YtglbamalagacgaaGreat
open Go.RowKit Go.Shelf
attribute [local go_sem] Oper.semAt_some
def getR (xs : List Ent) (a l : Int) : Int × Int := if isPfx a l = false then (0, 2) else if getE xs a l = none then (0, 5) else (orZ (getE xs a l), 0)
set_option maxHeartbeats 400000 in
theorem get_any (w : World) (t : Nat) (e : Value) (xs : List Ent) (F : List Nat) (a l : Int) (t0 : w.cell? ⟨t, 0, none⟩ = some e) (hE : EngF w e xs F) :
  Calls Tryz.prog 61 #[ptrV t, pfxV a l] w fun r w' => r = .returned (.tuple #[.int .i64 (getR xs a l).1, .int .i64 (getR xs a l).2]) /\ Below w.heap.size w w' := by
 have tl := World.block_lt_of_cell? w _ t0
 simp only at tl
 have hok := hE.ok
 have hB : Below w.heap.size w (w.alloc (.cells #[.int .i64 a, .int .i64 l] 65)) := (Below.refl _ w).alloc (Nat.le_refl _) _
 have HB := hide hB
 by_cases h1 : isPfx a l = false
 ·have e1 : getR xs a l = (0, 2) := by unfold getR; rw [if_pos h1]
  rw [e1]
  clear hB hE e1 t0
  go_enter Tryz.func61, Tryz.ntmps61
  go_wp2_with fail
  refine (valid_no a l _ h1).mono ?_
  rintro _ w2 ⟨rfl, hb2⟩
  have fin := hide (HB.out.trans (hb2.mono HB.out.size))
  clear hb2
  go_wp2
  go_ret2
  exact ⟨rfl, fin.out⟩
 have hp : isPfx a l = true := by simpa using h1
 have HN := hide (fun W (hW : Below w.heap.size w W) => next_any e xs F a l W (hE.later hW))
 have heq1 : ∃ T p, e = .iface T (ptrV p) := by obtain ⟨_, _, T, p, q, _⟩ := hE; exact ⟨T, p, q⟩
 obtain ⟨T, p, rfl⟩ := heq1
 have hz := orZ_none (a := a) (l := l) hok
 have e1 : getR xs a l = if orZ (getE xs a l) = 0 then (0, 5) else (orZ (getE xs a l), 0) := by
  unfold getR
  rw [if_neg h1]
  by_cases h2 : getE xs a l = none
  ·rw [if_pos h2, if_pos (hz.2 h2)]
  ·rw [if_neg h2, if_neg (fun h => h2 (hz.1 h))]
 rw [e1]
 generalize orZ (getE xs a l) = n at *
 clear hB hE e1 hz h1 hok
 by_cases hn : n = 0
 ·rw [if_pos hn]
  subst hn
  go_enter Tryz.func61, Tryz.ntmps61
  go_wp2_with fail
  refine (valid_yes a l _ hp).mono ?_
  rintro _ w2 ⟨rfl, hb2⟩
  have hBw := HB.out.trans (hb2.mono HB.out.size)
  have x0 := (hBw.cell (p := ⟨t, 0, none⟩) tl).trans t0
  have p0 : w2.cell? ⟨w.heap.size, 0, none⟩ = some (.int .i64 a) := (hb2.cell (p := ⟨w.heap.size, 0, none⟩) (by simp)).trans (by simp)
  have p1 : w2.cell? ⟨w.heap.size, 1, none⟩ = some (.int .i64 l) := (hb2.cell (p := ⟨w.heap.size, 1, none⟩) (by simp)).trans (by simp)
  have zt : t < w2.heap.size := by have := hBw.size; omega
  have zb : w.heap.size < w2.heap.size := by have := hb2.size; simp at this; omega
  have HN2 := hide (HN.out w2.drew hBw.drew)
  have HBw := hide hBw
  clear hb2 hBw HN
  go_wp2
  go_region_held3 (fun w' => w'.cell? ⟨t, 0, none⟩ = some (.iface T (ptrV p)) /\ w'.cell? ⟨w.heap.size, 0, none⟩ = some (.int .i64 a) /\ w'.cell? ⟨w.heap.size, 1, none⟩ = some (.int .i64 l)) (go_keep)
   ((go_at_call 100; refine HN2.out.mono ?_; rintro _ w3 ⟨rfl, hb3⟩; (have hc1 : ∀ o, w3.cell? ⟨t, o, none⟩ = w2.cell? ⟨t, o, none⟩ := fun o => hb3.cell (p := ⟨t, o, none⟩) zt); (have hc2 : ∀ o, w3.cell? ⟨w.heap.size, o, none⟩ = w2.cell? ⟨w.heap.size, o, none⟩ := fun o => hb3.cell (p := ⟨w.heap.size, o, none⟩) zb)))
  have fin := hide (show Below w.heap.size w w3 from HBw.out.trans (((Below.refl _ w2).drew.trans hb3).mono HBw.out.size))
  clear hb3 hc1 hc2 HN2
  go_wp2
  go_ret2
  exact ⟨rfl, fin.out⟩
 ·rw [if_neg hn]
  have hnq : (n == 0) = false := by simpa using hn
  go_enter Tryz.func61, Tryz.ntmps61
  go_wp2_with fail
  refine (valid_yes a l _ hp).mono ?_
  rintro _ w2 ⟨rfl, hb2⟩
  have hBw := HB.out.trans (hb2.mono HB.out.size)
  have x0 := (hBw.cell (p := ⟨t, 0, none⟩) tl).trans t0
  have p0 : w2.cell? ⟨w.heap.size, 0, none⟩ = some (.int .i64 a) := (hb2.cell (p := ⟨w.heap.size, 0, none⟩) (by simp)).trans (by simp)
  have p1 : w2.cell? ⟨w.heap.size, 1, none⟩ = some (.int .i64 l) := (hb2.cell (p := ⟨w.heap.size, 1, none⟩) (by simp)).trans (by simp)
  have zt : t < w2.heap.size := by have := hBw.size; omega
  have zb : w.heap.size < w2.heap.size := by have := hb2.size; simp at this; omega
  have HN2 := hide (HN.out w2.drew hBw.drew)
  have HBw := hide hBw
  clear hb2 hBw HN
  go_wp2
  go_region_held3 (fun w' => w'.cell? ⟨t, 0, none⟩ = some (.iface T (ptrV p)) /\ w'.cell? ⟨w.heap.size, 0, none⟩ = some (.int .i64 a) /\ w'.cell? ⟨w.heap.size, 1, none⟩ = some (.int .i64 l)) (go_keep)
   ((go_at_call 100; refine HN2.out.mono ?_; rintro _ w3 ⟨rfl, hb3⟩; (have hc1 : ∀ o, w3.cell? ⟨t, o, none⟩ = w2.cell? ⟨t, o, none⟩ := fun o => hb3.cell (p := ⟨t, o, none⟩) zt); (have hc2 : ∀ o, w3.cell? ⟨w.heap.size, o, none⟩ = w2.cell? ⟨w.heap.size, o, none⟩ := fun o => hb3.cell (p := ⟨w.heap.size, o, none⟩) zb)))
  have fin := hide (show Below w.heap.size w w3 from HBw.out.trans (((Below.refl _ w2).drew.trans hb3).mono HBw.out.size))
  clear hb3 hc1 hc2 HN2
  go_wp2
  go_ret2
  exact ⟨rfl, fin.out⟩
def lookR (xs : List Ent) (a : Int) : Ent × Int := if ¬ (0 <= a /\ a < 256) then (⟨0, 0, 0⟩, 4) else match bestE xs a with
 | none => (⟨0, 0, 0⟩, 5)
 | some x => (x, 0)
set_option maxRecDepth 4000 in
set_option maxHeartbeats 1000000 in
theorem lookup_any (w : World) (t : Nat) (e : Value) (xs : List Ent) (F : List Nat) (a : Int) (t0 : w.cell? ⟨t, 0, none⟩ = some e) (hE : EngF w e xs F) :
  Calls Tryz.prog 41 #[ptrV t, .int .i64 a] w fun r w' => r = .returned (.tuple #[rteV (lookR xs a).1.a (lookR xs a).1.l (lookR xs a).1.n, .int .i64 (lookR xs a).2]) /\ Below w.heap.size w w' := by
 have tl := World.block_lt_of_cell? w _ t0
 simp only at tl
 by_cases h1 : ¬ (0 <= a /\ a < 256)
 ·have e1 : lookR xs a = (⟨0, 0, 0⟩, 4) := by unfold lookR; rw [if_pos h1]
  rw [e1]
  have hA : (decide (0 <= a) && decide (a < 256)) = false := by rw [Bool.and_eq_false_iff, decide_eq_false_iff_not, decide_eq_false_iff_not]; omega
  clear hE e1 t0
  go_enter Tryz.func41, Tryz.ntmps41
  go_wp2_with (go_at_call 77; refine (isAddress_no a hA _).mono ?_; rintro _ w2 ⟨rfl, rfl⟩)
  refine bodyPost_ret (v := .tuple #[rteV 0 0 0, .int .i64 4]) (by simp [results, Tryz.results41, go_sem]) rfl ⟨rfl, (by repeat (first | exact Below.refl _ _ | refine below_drewN ?_ _ | refine Below.drew ?_ | refine Below.trans ?_ (Below.mono (by assumption) ?_) | refine Below.alloc ?_ ?_ _ | refine Below.setCell ?_ ?_ _ | omega | (simp; omega) | simp))⟩
 have h1' := Decidable.not_not.1 h1
 have hA : (decide (0 <= a) && decide (a < 256)) = true := by simp; omega
 have hia := isAddress_any a
 rw [hA] at hia
 have hB : Below w.heap.size w (w.alloc (.cells #[.int .i64 0, .int .i64 0, .int .i64 0] 90)) := (Below.refl _ w).alloc (Nat.le_refl _) _
 obtain ⟨T, p, fb, D⟩ := hE.dispB
 have mb := D.mb.m
 have nb := D.mb.n
 have cb := D.mb.c
 have eq := D.eq
 have hbst := hide (D.best _ xs F a (hE.later hB) h1'.1 h1'.2)
 have x0 : (w.alloc (.cells #[.int .i64 0, .int .i64 0, .int .i64 0] 90)).cell? ⟨t, 0, none⟩ = some e := (hB.cell (p := ⟨t, 0, none⟩) tl).trans t0
 have e1 : lookR xs a = match bestE xs a with | none => (⟨0, 0, 0⟩, 5) | some x => (x, 0) := by unfold lookR; rw [if_neg h1]
 rw [e1]
 have HB := hide hB
 generalize bestE xs a = o at *
 clear D hE e1 hB h1 t0
 subst eq
 have HI := hide hia
 clear hia hA
 rcases o with _ | x
 ·rw [show R.rteO none = rteV 0 0 0 from rfl] at hbst
  go_enter Tryz.func41, Tryz.ntmps41
  go_wp2_with fail
  refine (HI.out _).mono ?_
  rintro _ w2 ⟨rfl, rfl⟩
  go_wp2_with fail
  refine hbst.out.mono ?_
  rintro _ w3 ⟨hb3, rfl⟩
  have r0 : w3.cell? ⟨w.heap.size, 0, none⟩ = some (.int .i64 0) := (hb3.cell (p := ⟨w.heap.size, 0, none⟩) (by simp)).trans (by simp)
  have r1 : w3.cell? ⟨w.heap.size, 1, none⟩ = some (.int .i64 0) := (hb3.cell (p := ⟨w.heap.size, 1, none⟩) (by simp)).trans (by simp)
  have r2 : w3.cell? ⟨w.heap.size, 2, none⟩ = some (.int .i64 0) := (hb3.cell (p := ⟨w.heap.size, 2, none⟩) (by simp)).trans (by simp)
  have rf : ∀ o, w3.frozen? ⟨w.heap.size, o, none⟩ = false := fun o => (hb3.frozen (p := ⟨w.heap.size, o, none⟩) (by simp)).trans (by simp [go_sem])
  have zz : w.heap.size < w3.heap.size := by have := hb3.size; simp at this; omega
  have nz1 : ¬ (w.heap.size = w3.heap.size) := by omega
  have nz2 : ¬ (w3.heap.size = w.heap.size) := by omega
  have HB3 := hide (show Below w.heap.size w w3 from HB.out.trans (hb3.mono HB.out.size))
  have zle : w.heap.size <= w3.heap.size := by omega
  clear hb3 hbst
  go_wp2
  refine bodyPost_ret (v := .tuple #[rteV 0 0 0, .int .i64 5]) (by simp [results, Tryz.results41, go_sem, *]) rfl ⟨rfl, ?_⟩
  refine Below.alloc (Below.setCell (Below.setCell (Below.setCell HB3.out ?_ _) ?_ _) ?_ _) ?_ _
  ·exact Nat.le_refl _
  ·exact Nat.le_refl _
  ·exact Nat.le_refl _
  ·simpa [World.setCell] using zle
 ·obtain ⟨xa, xl, xn⟩ := x
  rw [R.rteO_some] at hbst
  go_enter Tryz.func41, Tryz.ntmps41
  go_wp2_with fail
  refine (HI.out _).mono ?_
  rintro _ w2 ⟨rfl, rfl⟩
  go_wp2_with fail
  refine hbst.out.mono ?_
  rintro _ w3 ⟨hb3, rfl⟩
  have r0 : w3.cell? ⟨w.heap.size, 0, none⟩ = some (.int .i64 0) := (hb3.cell (p := ⟨w.heap.size, 0, none⟩) (by simp)).trans (by simp)
  have r1 : w3.cell? ⟨w.heap.size, 1, none⟩ = some (.int .i64 0) := (hb3.cell (p := ⟨w.heap.size, 1, none⟩) (by simp)).trans (by simp)
  have r2 : w3.cell? ⟨w.heap.size, 2, none⟩ = some (.int .i64 0) := (hb3.cell (p := ⟨w.heap.size, 2, none⟩) (by simp)).trans (by simp)
  have rf : ∀ o, w3.frozen? ⟨w.heap.size, o, none⟩ = false := fun o => (hb3.frozen (p := ⟨w.heap.size, o, none⟩) (by simp)).trans (by simp [go_sem])
  have zz : w.heap.size < w3.heap.size := by have := hb3.size; simp at this; omega
  have nz1 : ¬ (w.heap.size = w3.heap.size) := by omega
  have nz2 : ¬ (w3.heap.size = w.heap.size) := by omega
  have HB3 := hide (show Below w.heap.size w w3 from HB.out.trans (hb3.mono HB.out.size))
  have zle : w.heap.size <= w3.heap.size := by omega
  clear hb3 hbst
  go_wp2
  refine bodyPost_ret (v := .tuple #[rteV xa xl xn, .int .i64 0]) (by simp [results, Tryz.results41, go_sem, *]) rfl ⟨rfl, ?_⟩
  refine Below.alloc (Below.setCell (Below.setCell (Below.setCell HB3.out ?_ _) ?_ _) ?_ _) ?_ _
  ·exact Nat.le_refl _
  ·exact Nat.le_refl _
  ·exact Nat.le_refl _
  ·simpa [World.setCell] using zle
end Go.Proofs.YtglbamalagacgaaGreat

namespace Go.Proofs.YtglbamalagacgaaGreat
open Go.RowKit Go.Shelf
attribute [local go_sem] Oper.semAt_some
theorem wpListIn_appendB {F : Fence} {n : Nat} {P : Program} {w : World} {ops : Array Oper} {rest : List Oper} {o : Oper} {a : Act} {Q : Exit -> Act -> World -> Prop} (hg : o.guard = none) (d s : Operand) (t t' : TypeId) (hop : o.op = .call { callee := .builtin .append, args := #[d, s], argTypes := #[t, t'] }) (v u : Value) (hd : a.eval d = v) (hs : a.eval s = u) (v' : Value) (w' : World)
  (hr : (Builtin.append_ #[t, t'] o.type #[v, u]).run P w = .ok v' w') (h : wpListIn F n P ops Q rest (a.put o.dst v') w') : wpListIn F n P ops Q (o :: rest) a w := by
 refine wpListIn_plain hg fun K hK' => ?_
 unfold Oper.wpIn
 refine ⟨?_, ?_⟩
 ·simp [Oper.about, hop, resolve, Target.leads, Sem.run_pure]
 ·rw [Oper.semAt_plain F _ _ (by rw [hop]; intro c hc'; cases hc')]
  simp [execOp, hop, resolve, invoke, builtin, hd, hs, hr, Result.andThen]
  exact hK' _ _ h
abbrev rcell (x : Ent) : List Value := [.int .i64 x.a, .int .i64 x.l, .int .i64 x.n]
def rteC (xs : List Ent) : List Value := xs.flatMap rcell
theorem rteInfo : ∃ i, Tryz.prog.info? 90 = some i /\ i.zero = some (rteV 0 0 0) /\ i.size = 3 /\ i.bytes = 24 := by
 have h : (Tryz.prog.info? 90).map (fun i => (i.zero, i.size, i.bytes)) = some (some (rteV 0 0 0), 3, 24) := by kernel_rfl
 cases hq : Tryz.prog.info? 90 with
 | none => simp [hq] at h
 | some i => simp [hq] at h; exact ⟨i, rfl, h.1, h.2.1, h.2.2⟩
theorem append_rte {w : World} (ty : TypeId) (v : Value) (n : Nat) (cs : List Value) (a l m : Int) (hrow : RowG 90 3 w v n cs) (hn : n <= 1000000) :
  ∃ g cap w', (Builtin.append_ #[61, 61] ty #[v, .slice (some ⟨w.heap.size, 0, none⟩) 1 1]).run Tryz.prog (w.alloc (.cells #[.int .i64 a, .int .i64 l, .int .i64 m] 90)) = .ok (.slice (some ⟨g, 0, none⟩) (n + 1) cap) w' ∧
   RowG 90 3 w' (.slice (some ⟨g, 0, none⟩) (n + 1) cap) (n + 1) (cs ++ [.int .i64 a, .int .i64 l, .int .i64 m]) /\ (w.alloc (.cells #[.int .i64 a, .int .i64 l, .int .i64 m] 90)).grownBy w' v.ownBlock /\ (some g = v.ownBlock ∨ w.heap.size < g) := by
 obtain ⟨i, hi, hz, hs, hb⟩ := rteInfo
 have hA : Below w.heap.size w (w.alloc (.cells #[.int .i64 a, .int .i64 l, .int .i64 m] 90)) := ((Below.refl _ w).alloc (Nat.le_refl _) _)
 obtain ⟨g, cap, w', h1, h2, h3, h4⟩ := run_appendG (P := Tryz.prog) (w.alloc (.cells #[.int .i64 a, .int .i64 l, .int .i64 m] 90)) 61 ty 90 i (rteV 0 0 0) 3 24 Tryz.underlying61 hi hz hs hb rfl (by omega) (by omega) v n cs (hrow.kept fun g hg => hA.block g (hrow.lt g hg)) ⟨w.heap.size, 0, none⟩ 1 [.int .i64 a, .int .i64 l, .int .i64 m] rfl
  (fun j u hj => by
   rw [Addr.add_lit]
   simp only [World.cell?]
   rw [World.alloc_heap_new]
   simpa using hj) (by intro u hu; simp at hu; rcases hu with rfl | rfl | rfl <;> rfl) hn
 exact ⟨g, cap, w', h1, h2, h3, h4.imp id (fun h => by simp at h; omega)⟩
theorem setT' {w : World} {t : Nat} {cs : Array Value} {ty : TypeId} (hb : w.heap[t]? = some (.cells cs ty (0, 0))) (o : Nat) (v : Value) : (w.setCell ⟨t, o, none⟩ v).heap[t]? = some (.cells (cs.setIfInBounds o v) ty (0, 0)) /\ (∀ k, k ≠ t -> (w.setCell ⟨t, o, none⟩ v).heap[k]? = w.heap[k]?) /\ (w.setCell ⟨t, o, none⟩ v).heap.size = w.heap.size :=
 ⟨by rw [setCell_eq_setRow w t o cs ty (0, 0) v hb]; exact setRow_heap w t _ _ _ _ hb, fun k hk => Below.heap_setCell _ ⟨t, o, none⟩ _ _ hk, by simp [World.setCell]⟩
structure PgI (w w3 W : World) (pg : Nat) (n : Nat) (ys : List Ent) (v : Value) : Prop where
 blk : W.heap[pg]? = some (.cells #[v] 61 (0, 0))
 row : RowG 90 3 W v ys.length (rteC ys)
 only : Only [pg] w3 W
 nb : W.heap[w.heap.size + 1]? = some (.cells #[.int .i64 (n : Int)] 3 (0, 0))
 fresh : ∀ g, v.ownBlock = some g -> w3.heap.size <= g
theorem RowG.cellsB {e : TypeId} {sz : Nat} {w : World} {v : Value} {n : Nat} {cs : List Value} (h : RowG e sz w v n cs) : ∀ g, v.ownBlock = some g -> ∃ o, w.heap[g]? = some o /\ o.isCells = true := by
 intro g hg
 rcases h.2 with ⟨rfl, rfl⟩ | ⟨g', cap, sp, rfl, hg', _⟩
 ·cases hg
 ·cases hg; exact ⟨_, hg', rfl⟩
def pgO (pg : Nat) (W : World) (k : Nat) : Prop := k = pg ∨ ∃ v, W.heap[pg]? = some (.cells #[v] 61 (0, 0)) /\ v.ownBlock = some k
theorem PgI.own {w w3 W : World} {pg n : Nat} {ys : List Ent} {v : Value} (h : PgI w w3 W pg n ys v) (k : Nat) : pgO pg W k ↔ k = pg ∨ v.ownBlock = some k := by
 unfold pgO
 constructor
 ·rintro (h1 | ⟨v', h1, h2⟩)
  ·exact .inl h1
  ·rw [h.blk] at h1
   cases h1
   exact .inr h2
 ·rintro (h1 | h1)
  ·exact .inl h1
  ·exact .inr ⟨v, h.blk, h1⟩
theorem PgI.soft {w w3 A B : World} {pg n : Nat} {ys : List Ent} {v : Value} (h : PgI w w3 A pg n ys v) (hs : Soft w3.heap.size A B) : PgI w w3 B pg n ys v :=
 ⟨hs.block _ _ h.blk (.inr rfl), h.row.kept fun g hg => hs.blk (h.row.lt g hg) (.inr (h.row.cellsB g hg)), ⟨hs.os.trans h.only.os, hs.tape.trans h.only.tape, hs.output.trans h.only.output, Nat.le_trans h.only.size hs.size, fun k hk hn => (hs.blk (by have := h.only.size; omega) (.inl hk)).trans (h.only.block k hk hn)⟩, hs.block _ _ h.nb (.inr rfl), h.fresh⟩
theorem PgI.push {w w3 A W' : World} {pg n g cap : Nat} {ys : List Ent} {v : Value} {x : Ent} (h : PgI w w3 A pg n ys v) (hpg : pg < w3.heap.size) (hnb : w.heap.size + 1 < pg) (hrow : RowG 90 3 W' (.slice (some ⟨g, 0, none⟩) (ys.length + 1) cap) (ys.length + 1) (rteC ys ++ [.int .i64 x.a, .int .i64 x.l, .int .i64 x.n]))
  (hg : (A.alloc (.cells #[.int .i64 x.a, .int .i64 x.l, .int .i64 x.n] 90)).grownBy W' v.ownBlock) (hfr : some g = v.ownBlock ∨ A.heap.size < g) :
  PgI w w3 (W'.setCell ⟨pg, 0, none⟩ (.slice (some ⟨g, 0, none⟩) (ys.length + 1) cap)) pg n (ys ++ [x]) (.slice (some ⟨g, 0, none⟩) (ys.length + 1) cap) /\ Firm w3.heap.size A (W'.setCell ⟨pg, 0, none⟩ (.slice (some ⟨g, 0, none⟩) (ys.length + 1) cap)) /\ KOwn (pgO pg) A (W'.setCell ⟨pg, 0, none⟩ (.slice (some ⟨g, 0, none⟩) (ys.length + 1) cap)) /\ W'.heap[pg]? = some (.cells #[v] 61 (0, 0)) := by
 have z1 := h.only.size
 have z2 := hg.size
 simp at z2
 have nvp : some pg ≠ v.ownBlock := fun e => by have := h.fresh pg e.symm; omega
 have keep : ∀ k, k < A.heap.size -> some k ≠ v.ownBlock -> W'.heap[k]? = A.heap[k]? := fun k hk hn => (hg.block k (by simp; omega) hn).trans (Below.heap_alloc A _ k hk)
 have hb1 : W'.heap[pg]? = some (.cells #[v] 61 (0, 0)) := (keep pg (by omega) nvp).trans h.blk
 obtain ⟨a1, a2, a3⟩ := setT' hb1 0 (.slice (some ⟨g, 0, none⟩) (ys.length + 1) cap)
 have gnp : g ≠ pg := by
  rcases hfr with h1 | h1
  ·exact fun e => nvp (by rw [<- e, h1])
  ·omega
 have hfre : w3.heap.size <= g := by
  rcases hfr with h1 | h1
  ·exact h.fresh g h1.symm
  ·omega
 have hC : PgI w w3 (W'.setCell ⟨pg, 0, none⟩ (.slice (some ⟨g, 0, none⟩) (ys.length + 1) cap)) pg n (ys ++ [x]) (.slice (some ⟨g, 0, none⟩) (ys.length + 1) cap) := by
  refine ⟨by rw [a1]; rfl, ?_, ⟨hg.os.trans h.only.os, hg.tape.trans h.only.tape, hg.output.trans h.only.output, by omega, fun k hk hn => ?_⟩, ?_, fun g' hg' => by cases hg'; exact hfre⟩
  ·rw [List.length_append, List.length_singleton]
   have e1 : rteC (ys ++ [x]) = rteC ys ++ [.int .i64 x.a, .int .i64 x.l, .int .i64 x.n] := by simp [rteC]
   rw [e1]
   exact hrow.kept fun k hk => by cases hk; exact a2 _ gnp
  ·simp at hn
   exact ((a2 k hn).trans (keep k (by omega) (fun e => by have := h.fresh k e.symm; omega))).trans (h.only.block k hk (by simpa using hn))
  ·exact ((a2 _ (by omega)).trans (keep _ (by omega) (fun e => by have := h.fresh _ e.symm; omega))).trans h.nb
 refine ⟨hC, fun k o hk ho hc => ?_, ⟨by omega, fun k o hk ho hn => ?_⟩, hb1⟩
 ·have hkl := (Array.getElem?_eq_some_iff.1 ho).1
  refine ((a2 k (by omega)).trans (keep k hkl (fun e => ?_))).trans ho
  obtain ⟨o', h1, h2⟩ := h.row.cellsB k e.symm
  rw [ho] at h1
  cases h1
  rw [hc] at h2
  cases h2
 ·have hkl := (Array.getElem?_eq_some_iff.1 hk).1
  have hn' : ¬ (k = pg ∨ v.ownBlock = some k) := fun h6 => hn ((h.own k).2 h6)
  simp only [not_or] at hn'
  refine ⟨((a2 k hn'.1).trans (keep k hkl (fun e => hn'.2 e.symm))).trans hk, fun h6 => ?_⟩
  rcases (hC.own k).1 h6 with h7 | h7
  ·exact hn'.1 h7
  ·have e7 : g = k := by simpa [Value.ownBlock] using h7
   rcases hfr with h8 | h8
   ·exact hn'.2 (by rw [<- h8, e7])
   ·omega
def pgI (w w3 : World) (pg n : Nat) (xs : List Ent) (pre : List { x : Ent // x ∈ xs }) (W : World) : Prop := pre.length <= n /\ ∃ v, PgI w w3 W pg n (pre.map (·.1)) v
def pgX (w w3 : World) (pg n : Nat) (xs : List Ent) (c : Code) (pre : List { x : Ent // x ∈ xs }) (W : World) : Prop := c = .exit 0 /\ ∃ ys x v, pre = ys ++ [x] /\ ys.length = n /\ PgI w w3 W pg n (ys.map (·.1)) v
def PgPost (w : World) (ys : List Ent) (r : Ending) (w' : World) : Prop := ∃ v, r = .returned (.tuple #[v, .int .i64 0]) /\ RowG 90 3 w' v ys.length (rteC ys) /\ Below w.heap.size w w' /\ ∀ g, v.ownBlock = some g -> w.heap.size <= g
set_option maxRecDepth 4000 in
set_option maxHeartbeats 2000000 in
theorem page_any (w : World) (t : Nat) (e : Value) (xs : List Ent) (F : List Nat) (a l : Int) (n : Nat) (t0 : w.cell? ⟨t, 0, none⟩ = some e) (hE : EngF w e xs F) (hp : isPfx a l = true) (hn : n <= 32) :
  Calls Tryz.prog 28 #[ptrV t, pfxV a l, .int .i64 (n : Int)] w (PgPost w ((fromE xs a l).take n)) := by
 have tl := World.block_lt_of_cell? w _ t0
 simp only at tl
 obtain ⟨T, p, ff, D⟩ := hE.dispI
 have eq := D.eq
 have mf := D.mf.m
 have nf := D.mf.n
 have cf := D.mf.c
 have hFl := hE.lt
 have hfr := hide (show ∀ W, Below w.heap.size w W -> Calls Tryz.prog ff #[ptrV p, pfxV a l] W (FromP xs F a l W) from fun W hW => D.frm W xs F a l (hE.later hW))
 have hlen := ok_len hE.sorted hE.ok
 have d0 : decide ((n : Int) < 0) = false := decide_eq_false (by omega)
 have d1 : decide ((32 : Int) < (n : Int)) = false := decide_eq_false (by omega)
 have hB0 : Below w.heap.size w ((w.alloc (Obj.cells #[.int .i64 a, .int .i64 l] 65)).alloc (Obj.cells #[.int .i64 (n : Int)] 3)) := (by repeat (first | exact Below.refl _ _ | refine below_drewN ?_ _ | refine Below.drew ?_ | refine Below.trans ?_ (Below.mono (by assumption) ?_) | refine Below.alloc ?_ ?_ _ | refine Below.setCell ?_ ?_ _ | omega | (simp; omega) | simp))
 have HB0 := hide hB0
 have o0 : ((w.alloc (Obj.cells #[.int .i64 a, .int .i64 l] 65)).alloc (Obj.cells #[.int .i64 (n : Int)] 3)).heap[w.heap.size]? = some (.cells #[.int .i64 a, .int .i64 l] 65 (0, 0)) := (Below.heap_alloc _ _ _ (by simp)).trans (World.alloc_heap_new w _)
 have o1 : ((w.alloc (Obj.cells #[.int .i64 a, .int .i64 l] 65)).alloc (Obj.cells #[.int .i64 (n : Int)] 3)).heap[w.heap.size + 1]? = some (.cells #[.int .i64 (n : Int)] 3 (0, 0)) := by
  have := World.alloc_heap_new (w.alloc (Obj.cells #[.int .i64 a, .int .i64 l] 65)) (Obj.cells #[.int .i64 (n : Int)] 3)
  rwa [World.size_alloc] at this
 have HO := hide (And.intro o0 o1)
 clear D hE hB0 o0 o1
 subst eq
 refine (callsIn_wide (n := 5)).1 ?_
 refine callsIn_of_wp_marks Tryz.func28 rfl trivial ?_ rfl
 refine wpIn_wide.2 ?_
 simp only [Tryz.ntmps28, List.size_toArray, List.length_cons, List.length_nil, Nat.reduceAdd, Nat.reduceSub, Array.replicate_succ, Array.replicate_zero, List.push_toArray, List.append_toArray, List.nil_append, List.cons_append]
 go_wp2_with fail
 refine (valid_yes a l _ hp).mono ?_
 rintro _ w2 ⟨rfl, hb2⟩
 have hBw := HB0.out.trans (hb2.mono HB0.out.size)
 have hz2 := hb2.size
 simp at hz2
 have q0 := (hb2.block w.heap.size (by simp; omega)).trans HO.out.1
 have q1 := (hb2.block (w.heap.size + 1) (by simp)).trans HO.out.2
 have c0 : w2.cell? ⟨w.heap.size, 0, none⟩ = some (.int .i64 a) := by simp [World.cell?, q0]
 have c1 : w2.cell? ⟨w.heap.size, 1, none⟩ = some (.int .i64 l) := by simp [World.cell?, q0]
 have c2 : w2.cell? ⟨w.heap.size + 1, 0, none⟩ = some (.int .i64 (n : Int)) := by simp [World.cell?, q1]
 have x0 : w2.cell? ⟨t, 0, none⟩ = some (.iface T (ptrV p)) := (hBw.cell (p := ⟨t, 0, none⟩) tl).trans t0
 have HQ1 := hide q1
 have HBw := hide hBw
 have zt : t < w2.heap.size + 1 := by omega
 have zb : w.heap.size < w2.heap.size + 1 := by omega
 have hB3 : Below w.heap.size w (w2.alloc (Obj.cells #[.slice none 0 0] 61)).drew := (hBw.alloc (by omega) _).drew
 have hfr3 := hide (hfr.out _ hB3)
 have HB3 := hide hB3
 clear q0 q1 hb2 hBw hB3 hfr HO
 go_wp2
 go_region_held3 (fun w' => w'.cell? ⟨t, 0, none⟩ = some (.iface T (ptrV p)) /\ w'.cell? ⟨w.heap.size, 0, none⟩ = some (.int .i64 a) /\ w'.cell? ⟨w.heap.size, 1, none⟩ = some (.int .i64 l)) (go_keep)
  ((refine hfr3.out.mono ?_; rintro _ w3 ⟨g, lb, rfl, hb3, eg, hseq⟩; (have hc1 : ∀ o, w3.cell? ⟨t, o, none⟩ = (w2.alloc (Obj.cells #[.slice none 0 0] 61)).cell? ⟨t, o, none⟩ := fun o => hb3.cell (p := ⟨t, o, none⟩) (by simpa using zt)); (have hc2 : ∀ o, w3.cell? ⟨w.heap.size, o, none⟩ = (w2.alloc (Obj.cells #[.slice none 0 0] 61)).cell? ⟨w.heap.size, o, none⟩ := fun o => hb3.cell (p := ⟨w.heap.size, o, none⟩) (by simpa using zb))))
 have hseq := hseq (fun x => x ∈ xs) (fun x hx => hx)
 have hz3 := hb3.size
 simp at hz3
 have hpg3 : w3.heap[w2.heap.size]? = some (.cells #[.slice none 0 0] 61 (0, 0)) := (hb3.block w2.heap.size (by simp)).trans (World.alloc_heap_new w2 _)
 have hnb3 : w3.heap[w.heap.size + 1]? = some (.cells #[.int .i64 (n : Int)] 3 (0, 0)) := ((hb3.block (w.heap.size + 1) (by simp; omega)).trans (Below.heap_alloc w2 _ _ (by omega))).trans HQ1.out
 have hBw3 : Below w.heap.size w w3 := HB3.out.trans (hb3.mono HB3.out.size)
 have hI0 : pgI w w3 w2.heap.size n xs [] w3 := ⟨by simp, .slice none 0 0, hpg3, RowG.nil _ _ _, Only.refl _ _, hnb3, fun g hg => by cases hg⟩
 have hpgl : w2.heap.size < w3.heap.size := by omega
 have hnpg : w.heap.size + 1 < w2.heap.size := by omega
 have HBW3 := hide hBw3
 clear hfr3 hb3 hc1 hc2 hBw3
 go_wp2
 refine wpIn_wide.1 (range_law (α := { x : Ent // x ∈ xs }) (gf := g) (lb := lb) rfl eg hseq (Below.refl _ _) (fun _ => rfl)
  (pgO w2.heap.size) (pgI w w3 w2.heap.size n xs) (pgX w w3 w2.heap.size n xs)
  ?hF ?hOl ?hI ?hIx hI0 ?hround ?hdone ?hstop)
 case hF =>
  intro k hk ho
  obtain ⟨_, v, h1⟩ := hI0
  have hkl := hFl k hk
  rcases (h1.own k).1 ho with rfl | h3
  ·omega
  ·have := h1.fresh k h3; omega
 case hOl =>
  rintro s A ⟨_, v, h1⟩ k ho
  have hsz := h1.only.size
  rcases (h1.own k).1 ho with rfl | h3
  ·omega
  ·exact h1.row.lt k h3
 case hI =>
  rintro s A B ⟨h0, v, h1⟩ hs
  exact ⟨⟨h0, v, h1.soft hs⟩, fun k hk => (h1.own k).2 (((h1.soft hs).own k).1 hk)⟩
 case hIx =>
  rintro c s A B ⟨h0, ys, x, v, h1, h2, h3⟩ hs
  exact ⟨h0, ys, x, v, h1, h2, h3.soft hs⟩
 case hround =>
  rintro l' pre x W3 hl1 hl2 ⟨hpl, v, hP⟩ hpn
  have hBq : Below W3.heap.size W3 (W3.alloc (Obj.cells #[.int .i64 x.1.a, .int .i64 x.1.l, .int .i64 x.1.n] 90)) := (Below.refl _ W3).alloc (Nat.le_refl _) _
  gi_wp2
  refine ⟨Soft.of_below hBq, Firm.of_below hBq, ?_⟩
  intro W4 hs4
  have h4 := hP.soft ((Soft.of_below hBq).trans hs4)
  have r0 : W4.heap[W3.heap.size]? = some (.cells #[.int .i64 x.1.a, .int .i64 x.1.l, .int .i64 x.1.n] 90 (0, 0)) := hs4.block _ _ (World.alloc_heap_new W3 _) (.inr rfl)
  obtain ⟨⟨xa, xl, xn⟩, hx⟩ := x
  simp only at r0
  have s0 : W4.cell? ⟨W3.heap.size, 0, none⟩ = some (.int .i64 xa) := by simp [World.cell?, r0]
  have s1 : W4.cell? ⟨W3.heap.size, 1, none⟩ = some (.int .i64 xl) := by simp [World.cell?, r0]
  have s2 : W4.cell? ⟨W3.heap.size, 2, none⟩ = some (.int .i64 xn) := by simp [World.cell?, r0]
  have k1 : W4.cell? ⟨w.heap.size + 1, 0, none⟩ = some (.int .i64 (n : Int)) := by simp [World.cell?, h4.nb]
  obtain ⟨va, vc, hve⟩ := h4.row.shape
  have hml : (pre.map (·.1)).length = pre.length := by simp
  rw [hml] at hve
  have k0 : W4.cell? ⟨w2.heap.size, 0, none⟩ = some (.slice va pre.length vc) := by simp [World.cell?, h4.blk, hve]
  have zpg := (Array.getElem?_eq_some_iff.1 h4.blk).1
  have znb := (Array.getElem?_eq_some_iff.1 h4.nb).1
  have zr := (Array.getElem?_eq_some_iff.1 r0).1
  have H4 := hide h4
  clear hs4 hBq hP h4 r0
  by_cases hc : pre.length = n
  ·have fin := hide (show Firm w3.heap.size W4 W4 /\ pgX w w3 w2.heap.size n xs (.exit 0) (pre ++ [⟨⟨xa, xl, xn⟩, hx⟩]) W4 from ⟨Firm.refl _ _, rfl, pre, _, v, rfl, hc, H4.out⟩)
   rw [hc] at k0
   clear H4
   gi_wp2
   exact fin.out
  ·have hcq : ((pre.length : Int) == (n : Int)) = false := by simp; omega
   have hpl6 : pre.length <= 1000000 := by omega
   obtain ⟨gg, cap, w', hr, hrow', hg', hfr'⟩ := append_rte (w := W4) 61 v (pre.map (·.1)).length (rteC (pre.map (·.1))) xa xl xn H4.out.row (by rw [hml]; exact hpl6)
   obtain ⟨hN, hf, ho, hb'⟩ := H4.out.push (x := ⟨xa, xl, xn⟩) hpgl hnpg hrow' hg' hfr'
   have c' : w'.cell? ⟨w2.heap.size, 0, none⟩ = some v := by simp [World.cell?, hb']
   have f' : w'.frozen? ⟨w2.heap.size, 0, none⟩ = false := by simp [World.frozen?, hb']
   rw [hml] at hr hN hf ho
   have fin := hide (show Firm w3.heap.size W4 (w'.setCell ⟨w2.heap.size, 0, none⟩ (.slice (some ⟨gg, 0, none⟩) (pre.length + 1) cap)) /\ KOwn (pgO w2.heap.size) W4 (w'.setCell ⟨w2.heap.size, 0, none⟩ (.slice (some ⟨gg, 0, none⟩) (pre.length + 1) cap)) /\ pgI w w3 w2.heap.size n xs (pre ++ [⟨⟨xa, xl, xn⟩, hx⟩]) (w'.setCell ⟨w2.heap.size, 0, none⟩ (.slice (some ⟨gg, 0, none⟩) (pre.length + 1) cap)) from
    ⟨hf, ho, by rw [List.length_append, List.length_singleton]; omega, _, by rw [List.map_append]; exact hN⟩)
   rw [hve] at hr c'
   have HR := hide hr
   clear hN hf ho hb' hrow' hg' hfr' H4 hr
   gi_wp2_with (gi_at_builtin; refine wpListIn_appendB rfl _ _ 61 61 rfl _ _ rfl rfl _ _ HR.out ?_)
   exact fin.out
 case hdone =>
  rintro D ys W3 hD hS3 ⟨hpl, v, hP⟩ hK
  have hys : ys.map (·.1) = (fromE xs a l).take n := by
   rw [<- hS3, List.take_of_length_le (by rw [List.length_map]; exact hpl)]
  have k0 : W3.cell? ⟨w2.heap.size, 0, none⟩ = some v := by simp [World.cell?, hP.blk]
  have hBs : Soft w3.heap.size W3 (W3.putObj D (.deferred none)) := Soft.putObj _ hK hD rfl
  have hP2 := hP.soft hBs
  have fin := hide (show PgPost w ((fromE xs a l).take n) (.returned (.tuple #[v, .int .i64 0])) (W3.putObj D (.deferred none)) from by
   refine ⟨v, rfl, by rw [<- hys]; exact hP2.row, ?_, fun g hg => by have := hP2.fresh g hg; omega⟩
   have hb := HBW3.out
   refine ⟨hP2.only.os.trans hb.os, hP2.only.tape.trans hb.tape, hP2.only.output.trans hb.output, by have := hP2.only.size; have := hb.size; omega, fun k hk => (hP2.only.block k (by omega) (by simp; omega)).trans (hb.block k hk)⟩)
  obtain ⟨va, vc, hve⟩ := hP.row.shape
  rw [List.length_map] at hve
  rw [hve] at k0 fin
  have HK := hide hK
  clear hK hP hP2 hBs hys hve hS3
  try clear hyl
  gi_wp2
  go_wp2
  refine ⟨by simp, .inl ⟨_, _, rfl, run_takeDeferred HK.out, ?_⟩⟩
  exact ⟨_, by simp [results, Tryz.results28, go_sem], fin.out⟩
 case hstop =>
  rintro D c pre W3 hD hS3 ⟨rfl, ys, x, v, rfl, hyl, hP⟩ hK
  have hys : ys.map (·.1) = (fromE xs a l).take n := by
   obtain ⟨zs, hz⟩ := hS3
   rw [<- hz, List.map_append, List.append_assoc, List.take_left' (by rw [List.length_map]; exact hyl)]
  have k0 : W3.cell? ⟨w2.heap.size, 0, none⟩ = some v := by simp [World.cell?, hP.blk]
  have hBs : Soft w3.heap.size W3 (W3.putObj D (.deferred none)) := Soft.putObj _ hK hD rfl
  have hP2 := hP.soft hBs
  have fin := hide (show PgPost w ((fromE xs a l).take n) (.returned (.tuple #[v, .int .i64 0])) (W3.putObj D (.deferred none)) from by
   refine ⟨v, rfl, by rw [<- hys]; exact hP2.row, ?_, fun g hg => by have := hP2.fresh g hg; omega⟩
   have hb := HBW3.out
   refine ⟨hP2.only.os.trans hb.os, hP2.only.tape.trans hb.tape, hP2.only.output.trans hb.output, by have := hP2.only.size; have := hb.size; omega, fun k hk => (hP2.only.block k (by omega) (by simp; omega)).trans (hb.block k hk)⟩)
  obtain ⟨va, vc, hve⟩ := hP.row.shape
  rw [List.length_map] at hve
  rw [hve] at k0 fin
  have HK := hide hK
  clear hK hP hP2 hBs hys hve hS3
  try clear hyl
  gi_wp2
  go_wp2
  refine ⟨by simp, .inl ⟨_, _, rfl, run_takeDeferred HK.out, ?_⟩⟩
  exact ⟨_, by simp [results, Tryz.results28, go_sem], fin.out⟩
set_option maxHeartbeats 400000 in
theorem page_pfx (w : World) (t : Nat) (a l n : Int) (h : isPfx a l = false) : Calls Tryz.prog 28 #[ptrV t, pfxV a l, .int .i64 n] w fun r w' => r = .returned (.tuple #[.slice none 0 0, .int .i64 2]) /\ Below w.heap.size w w' := by
 have hB0 : Below w.heap.size w ((w.alloc (Obj.cells #[.int .i64 a, .int .i64 l] 65)).alloc (Obj.cells #[.int .i64 n] 3)) := (by repeat (first | exact Below.refl _ _ | refine below_drewN ?_ _ | refine Below.drew ?_ | refine Below.trans ?_ (Below.mono (by assumption) ?_) | refine Below.alloc ?_ ?_ _ | refine Below.setCell ?_ ?_ _ | omega | (simp; omega) | simp))
 have HB0 := hide hB0
 clear hB0
 refine (callsIn_wide (n := 5)).1 ?_
 refine callsIn_of_wp_marks Tryz.func28 rfl trivial ?_ rfl
 refine wpIn_wide.2 ?_
 simp only [Tryz.ntmps28, List.size_toArray, List.length_cons, List.length_nil, Nat.reduceAdd, Nat.reduceSub, Array.replicate_succ, Array.replicate_zero, List.push_toArray, List.append_toArray, List.nil_append, List.cons_append]
 go_wp2_with fail
 refine (valid_no a l _ h).mono ?_
 rintro _ w2 ⟨rfl, hb2⟩
 have fin := hide (HB0.out.trans (hb2.mono HB0.out.size))
 clear hb2
 go_wp2
 exact ⟨_, by simp [results, Tryz.results28, go_sem], rfl, fin.out⟩
set_option maxHeartbeats 400000 in
theorem page_arg (w : World) (t : Nat) (a l n : Int) (h : isPfx a l = true) (hn : n < 0 ∨ 32 < n) : Calls Tryz.prog 28 #[ptrV t, pfxV a l, .int .i64 n] w fun r w' => r = .returned (.tuple #[.slice none 0 0, .int .i64 11]) /\ Below w.heap.size w w' := by
 have hB0 : Below w.heap.size w ((w.alloc (Obj.cells #[.int .i64 a, .int .i64 l] 65)).alloc (Obj.cells #[.int .i64 n] 3)) := (by repeat (first | exact Below.refl _ _ | refine below_drewN ?_ _ | refine Below.drew ?_ | refine Below.trans ?_ (Below.mono (by assumption) ?_) | refine Below.alloc ?_ ?_ _ | refine Below.setCell ?_ ?_ _ | omega | (simp; omega) | simp))
 have HB0 := hide hB0
 have o1 : ((w.alloc (Obj.cells #[.int .i64 a, .int .i64 l] 65)).alloc (Obj.cells #[.int .i64 n] 3)).heap[w.heap.size + 1]? = some (.cells #[.int .i64 n] 3 (0, 0)) := by
  have := World.alloc_heap_new (w.alloc (Obj.cells #[.int .i64 a, .int .i64 l] 65)) (Obj.cells #[.int .i64 n] 3)
  rwa [World.size_alloc] at this
 have HO := hide o1
 clear hB0 o1
 refine (callsIn_wide (n := 5)).1 ?_
 refine callsIn_of_wp_marks Tryz.func28 rfl trivial ?_ rfl
 refine wpIn_wide.2 ?_
 simp only [Tryz.ntmps28, List.size_toArray, List.length_cons, List.length_nil, Nat.reduceAdd, Nat.reduceSub, Array.replicate_succ, Array.replicate_zero, List.push_toArray, List.append_toArray, List.nil_append, List.cons_append]
 go_wp2_with fail
 refine (valid_yes a l _ h).mono ?_
 rintro _ w2 ⟨rfl, hb2⟩
 have q1 := (hb2.block (w.heap.size + 1) (by simp)).trans HO.out
 have c2 : w2.cell? ⟨w.heap.size + 1, 0, none⟩ = some (.int .i64 n) := by simp [World.cell?, q1]
 have fin := hide (HB0.out.trans (hb2.mono HB0.out.size))
 clear hb2 q1
 rcases hn with hn | hn
 ·have d0 : decide (n < 0) = true := decide_eq_true hn
  go_wp2
  exact ⟨_, by simp [results, Tryz.results28, go_sem], rfl, fin.out⟩
 ·have d0 : decide (n < 0) = false := decide_eq_false (by omega)
  have d1 : decide (32 < n) = true := decide_eq_true hn
  go_wp2
  exact ⟨_, by simp [results, Tryz.results28, go_sem], rfl, fin.out⟩
end Go.Proofs.YtglbamalagacgaaGreat

import Derived.Test.YtglbamalagacgaaGreatG1
import Derived.Test.YtglbamalagacgaaGreatI3
namespace Go.Proofs.YtglbamalagacgaaGreat
open Go.RowKit Go.Shelf
attribute [local go_sem] Oper.semAt_some
theorem past_cmp (m : Mv) (a l : Int) (h : 0 < m.cp) : decide (cmpP a l m.ca m.cl <= 0) = decide (m.past a l) := by
 have h1 := cmpP_neg a l m.ca m.cl
 have h2 := cmpP_zero a l m.ca m.cl
 unfold Mv.past
 refine decide_eq_decide.2 ?_
 unfold klt at h1 ⊢
 omega
set_option maxHeartbeats 400000 in
theorem isPassed_any (w : World) (mb : Nat) (m : Mv) (a l : Int) (c2 : w.cell? ⟨mb, 2, none⟩ = some (.int .i64 m.cp)) (c3 : w.cell? ⟨mb, 3, none⟩ = some (.int .i64 m.ca)) (c4 : w.cell? ⟨mb, 4, none⟩ = some (.int .i64 m.cl)) :
  Calls Tryz.prog 78 #[ptrV mb, pfxV a l] w fun r w' => r = .returned (.bool (decide (m.past a l))) /\ Below w.heap.size w w' := by
 have hml := World.block_lt_of_cell? w _ c2
 simp only at hml
 have m1 : mb < w.heap.size + 1 := by omega
 by_cases h : 0 < m.cp
 ·rw [<- past_cmp m a l h]
  obtain ⟨k, ph, ys, cp, ca, cl, lg⟩ := m
  simp only at c2 c3 c4 h
  have d0 : decide (0 < cp) = true := decide_eq_true h
  go_enter Tryz.func78, Tryz.ntmps78
  go_wp2
  go_region_held3 (fun w' => w'.cell? ⟨mb, 2, none⟩ = some (.int .i64 cp) /\ w'.cell? ⟨mb, 3, none⟩ = some (.int .i64 ca) /\ w'.cell? ⟨mb, 4, none⟩ = some (.int .i64 cl) /\ w'.cell? ⟨w.heap.size, 0, none⟩ = some (.int .i64 a) /\ w'.cell? ⟨w.heap.size, 1, none⟩ = some (.int .i64 l)) (go_keep)
   ((go_at_call 121; refine (compare_any _ _ _ _ _).mono ?_; rintro e w' ⟨rfl, hb⟩; have hc := (bcell hb).1))
  have fin := hide (show Below w.heap.size w w' from ((Below.refl _ w).alloc (Nat.le_refl _) _).drew.trans (hb.mono (by simp)))
  clear hb hc
  go_wp2
  go_ret
  exact ⟨rfl, fin.out⟩
 ·have hp : decide (m.past a l) = false := decide_eq_false fun h1 => h h1.1
  rw [hp]
  obtain ⟨k, ph, ys, cp, ca, cl, lg⟩ := m
  simp only at c2 c3 c4 h
  have d0 : decide (0 < cp) = false := decide_eq_false h
  go_enter Tryz.func78, Tryz.ntmps78
  go_wp2
  go_quiet (fail)
  go_wp2
  go_ret
  exact ⟨rfl, (by repeat (first | exact Below.refl _ _ | refine below_drewN ?_ _ | refine Below.drew ?_ | refine Below.trans ?_ (Below.mono (by assumption) ?_) | refine Below.alloc ?_ ?_ _ | refine Below.setCell ?_ ?_ _ | omega | (simp; omega) | simp))⟩
set_option maxHeartbeats 400000 in
theorem note_any (w : World) (mb : Nat) (m : Mv) (e2 : Value) (lb : Nat) (F2 G : List Nat) (a l : Int) (h : MovF w mb m e2 lb F2 G) (hp : isPfx a l = true) (hn : m.lg.length <= 1000) :
  Calls Tryz.prog 93 #[ptrV mb, pfxV a l] w fun r w' => (∃ G', MovF w' mb (m.note a l) e2 lb F2 G' /\ NewF w G G') /\ Only G w w' /\ r = .returned (.tuple #[]) := by
 have hml := h.lt
 have c1 : w.cell? ⟨mb, 1, none⟩ = some (.int .i64 m.ph) := by simp [World.cell?, h.blk]
 have c2 : w.cell? ⟨mb, 2, none⟩ = some (.int .i64 m.cp) := by simp [World.cell?, h.blk]
 have c3 : w.cell? ⟨mb, 3, none⟩ = some (.int .i64 m.ca) := by simp [World.cell?, h.blk]
 have c4 : w.cell? ⟨mb, 4, none⟩ = some (.int .i64 m.cl) := by simp [World.cell?, h.blk]
 have c5 : w.cell? ⟨mb, 5, none⟩ = some (ptrV lb) := by simp [World.cell?, h.blk]
 have m1 : mb < w.heap.size + 1 := by omega
 have hGl := h.log.lt
 have nwG : w.heap.size ∉ G := fun h1 => by have := hGl _ h1; omega
 have hjo := hide (show ∀ W, Below w.heap.size w W -> Calls Tryz.prog 125 #[ptrV lb, pfxV a l] W fun r w' => (∃ G', LogF w' lb (joinL m.lg a l) G' /\ NewF W G G') /\ Only G W w' /\ r = .returned (.tuple #[]) from fun W hW => join_any W lb m.lg G a l (h.log.later hW) hp hn)
 have nG : mb ∉ G := h.nG
 have Hj := hide (show ∀ W w', Below w.heap.size w W -> (∃ G', LogF w' lb (joinL m.lg a l) G' /\ NewF W G G') -> Only G W w' -> (∃ G', MovF w' mb { m with lg := joinL m.lg a l } e2 lb F2 G' /\ NewF w G G') /\ Only G w w' from fun W w' hW hl hO => by
  obtain ⟨G', q1, q2⟩ := hl
  have hs := hW.size
  have hN : NewF w G G' := fun k hk => (q2 k hk).imp id fun h1 => by omega
  have hO' : Only G w w' := (Only.of_below _ hW).trans hO (fun x hx => .inl hx)
  refine ⟨⟨G', ⟨(hO'.block mb hml nG).trans h.blk, h.eng.kept fun k hk => hO'.block k (h.eng.lt k hk) (fun hg => h.dj k hk hg), h.kind, q1, h.n2, fun hk => (hN mb hk).elim nG (fun h1 => by omega), fun k hk hg => (hN k hg).elim (h.dj k hk) (fun h1 => by have := h.eng.lt k hk; omega)⟩, hN⟩, hO'⟩)
 have Hn := hide (show ∀ W, Below w.heap.size w W -> (∃ G', MovF W mb m e2 lb F2 G' /\ NewF w G G') /\ Only G w W from fun W hW => ⟨⟨G, h.later hW, NewF.refl _ _⟩, Only.of_below _ hW⟩)
 have hB0 : Below w.heap.size w (w.alloc (Obj.cells #[.int .i64 a, .int .i64 l] 65)) := (Below.refl _ w).alloc (Nat.le_refl _) _
 have hps := hide (isPassed_any (w.alloc (Obj.cells #[.int .i64 a, .int .i64 l] 65)) mb m a l ((hB0.cell (p := ⟨mb, 2, none⟩) hml).trans c2) ((hB0.cell (p := ⟨mb, 3, none⟩) hml).trans c3) ((hB0.cell (p := ⟨mb, 4, none⟩) hml).trans c4))
 clear h
 by_cases h2 : m.ph = 2
 ·have e : m.note a l = { m with lg := joinL m.lg a l } := by unfold Mv.note; rw [if_pos (.inl h2)]
  rw [e]
  have hq : (m.ph == 2) = true := by simp [h2]
  generalize m.ph = ph at *
  generalize hmm : ({ m with lg := joinL m.lg a l } : Mv) = mm at *
  clear hps hB0 c2 c3 c4 e h2 hmm Hn
  go_enter Tryz.func93, Tryz.ntmps93
  go_wp2
  go_region_held3 (fun w' => w'.cell? ⟨mb, 5, none⟩ = some (ptrV lb) /\ w'.cell? ⟨w.heap.size, 0, none⟩ = some (.int .i64 a) /\ w'.cell? ⟨w.heap.size, 1, none⟩ = some (.int .i64 l)) (go_keep)
   ((go_at_call 125; refine (hjo.out _ (by repeat (first | exact Below.refl _ _ | refine below_drewN ?_ _ | refine Below.drew ?_ | refine Below.trans ?_ (Below.mono (by assumption) ?_) | refine Below.alloc ?_ ?_ _ | refine Below.setCell ?_ ?_ _ | omega | (simp; omega) | simp))).mono ?_; rintro _ w2 ⟨hl2, hO, rfl⟩; (have fin := hide (Hj.out _ w2 (by repeat (first | exact Below.refl _ _ | refine below_drewN ?_ _ | refine Below.drew ?_ | refine Below.trans ?_ (Below.mono (by assumption) ?_) | refine Below.alloc ?_ ?_ _ | refine Below.setCell ?_ ?_ _ | omega | (simp; omega) | simp)) hl2 hO)); (have hc1 : ∀ o, w2.cell? ⟨mb, o, none⟩ = (w.alloc (Obj.cells #[.int .i64 a, .int .i64 l] 65)).cell? ⟨mb, o, none⟩ := fun o => hO.cell (by simp; omega) nG); (have hc2 : ∀ o, w2.cell? ⟨w.heap.size, o, none⟩ = (w.alloc (Obj.cells #[.int .i64 a, .int .i64 l] 65)).cell? ⟨w.heap.size, o, none⟩ := fun o => hO.cell (by simp) nwG)))
  clear hl2 hO hc1 hc2 hjo Hj
  go_wp2
  go_end0
  exact ⟨fin.out.1, fin.out.2, rfl⟩
 ·have hq : (m.ph == 2) = false := by simp [h2]
  have box0 : (w.alloc (Obj.cells #[.int .i64 a, .int .i64 l] 65)).cell? ⟨w.heap.size, 0, none⟩ = some (.int .i64 a) := by simp
  have box1 : (w.alloc (Obj.cells #[.int .i64 a, .int .i64 l] 65)).cell? ⟨w.heap.size, 1, none⟩ = some (.int .i64 l) := by simp
  have Hbx := hide (And.intro box0 box1)
  have HB0 := hide hB0
  by_cases h3 : m.past a l
  ·have e : m.note a l = { m with lg := joinL m.lg a l } := by unfold Mv.note; rw [if_pos (.inr h3)]
   rw [e]
   have hd : decide (m.past a l) = true := decide_eq_true h3
   rw [hd] at hps
   generalize m.ph = ph at *
   generalize hmm : ({ m with lg := joinL m.lg a l } : Mv) = mm at *
   clear hB0 box0 box1 c2 c3 c4 e h2 h3 hd hmm Hn
   go_enter Tryz.func93, Tryz.ntmps93
   go_wp2_with fail
   refine hps.out.mono ?_
   rintro _ w1 ⟨rfl, hb⟩
   have hB1 : Below w.heap.size w w1 := HB0.out.trans (hb.mono HB0.out.size)
   have k5 : w1.cell? ⟨mb, 5, none⟩ = some (ptrV lb) := (hB1.cell (p := ⟨mb, 5, none⟩) hml).trans c5
   have k0 : w1.cell? ⟨w.heap.size, 0, none⟩ = some (.int .i64 a) := (hb.cell (p := ⟨w.heap.size, 0, none⟩) (by simp)).trans Hbx.out.1
   have k1 : w1.cell? ⟨w.heap.size, 1, none⟩ = some (.int .i64 l) := (hb.cell (p := ⟨w.heap.size, 1, none⟩) (by simp)).trans Hbx.out.2
   have hz : w.heap.size < w1.heap.size := by have := hb.size; simp at this; omega
   have hz2 : mb < w1.heap.size := by omega
   have Hjo := hide (hjo.out w1.drew hB1.drew)
   have Hj1 := hide (fun w' => Hj.out w1.drew w' hB1.drew)
   clear hb hB1 hps hjo Hj c5
   go_wp2
   go_region_held3 (fun w' => w'.cell? ⟨mb, 5, none⟩ = some (ptrV lb) /\ w'.cell? ⟨w.heap.size, 0, none⟩ = some (.int .i64 a) /\ w'.cell? ⟨w.heap.size, 1, none⟩ = some (.int .i64 l)) (go_keep)
    ((go_at_call 125; refine Hjo.out.mono ?_; rintro _ w2 ⟨hl2, hO, rfl⟩; (have fin := hide (Hj1.out w2 hl2 hO)); (have hc1 : ∀ o, w2.cell? ⟨mb, o, none⟩ = w1.cell? ⟨mb, o, none⟩ := fun o => hO.cell hz2 nG); (have hc2 : ∀ o, w2.cell? ⟨w.heap.size, o, none⟩ = w1.cell? ⟨w.heap.size, o, none⟩ := fun o => hO.cell hz nwG)))
   clear hl2 hO hc1 hc2 Hjo Hj1
   go_wp2
   go_end0
   exact ⟨fin.out.1, fin.out.2, rfl⟩
  ·have e : m.note a l = m := by unfold Mv.note; rw [if_neg (fun h => h.elim h2 h3)]
   rw [e]
   have hd : decide (m.past a l) = false := decide_eq_false h3
   rw [hd] at hps
   clear hjo Hj hB0 box0 box1 c2 c3 c4 c5 e h3 hd Hbx
   go_enter Tryz.func93, Tryz.ntmps93
   go_wp2_with fail
   refine hps.out.mono ?_
   rintro _ w1 ⟨rfl, hb⟩
   have fin := hide (Hn.out w1 (HB0.out.trans (hb.mono HB0.out.size)))
   clear hb hps Hn
   go_wp2
   go_end0
   exact ⟨fin.out.1, fin.out.2, rfl⟩
theorem MovF.turn {w w' : World} {mb : Nat} {m m' : Mv} {e2 : Value} {lb : Nat} {F2 G F' : List Nat} (h : MovF w mb m e2 lb F2 G) (hb : w'.heap[mb]? = some (.cells #[e2, .int .i64 m'.ph, .int .i64 m'.cp, .int .i64 m'.ca, .int .i64 m'.cl, ptrV lb] 101 (0, 0)))
  (hE : EngF w' e2 m'.ys F') (hk : m'.k = m.k) (hl : m'.lg = m.lg) (hN : NewF w F2 F') (hO : Only (mb :: F2) w w') : MovF w' mb m' e2 lb F' G :=
 ⟨hb, hE, h.kind.trans hk.symm, by rw [hl]; exact h.log.kept fun k hk => hO.block k (h.log.lt k hk) (fun h1 => by
  rcases List.mem_cons.1 h1 with rfl | h1
  ·exact h.nG hk
  ·exact h.dj k h1 hk), fun hk => (hN mb hk).elim h.n2 (fun h1 => by have := h.lt; omega), h.nG, fun k hk hg => (hN k hk).elim (fun h1 => h.dj k h1 hg) (fun h1 => by have := h.log.lt k hg; omega)⟩
end Go.Proofs.YtglbamalagacgaaGreat

namespace Go.Proofs.YtglbamalagacgaaGreat
open Go.RowKit Go.Shelf
attribute [local go_sem] Oper.semAt_some
theorem cellsSet (w : World) (b o : Nat) (cs : Array Value) (t : TypeId) (f : Nat × Nat) (v : Value) (h : w.heap[b]? = some (.cells cs t f)) : (w.setCell ⟨b, o, none⟩ v).heap[b]? = some (.cells (cs.setIfInBounds o v) t f) := by
 rw [setCell_eq_setRow w b o cs t f v h]; exact setRow_heap w b _ _ _ _ h
set_option maxRecDepth 4000 in
set_option maxHeartbeats 1000000 in
theorem mvLay_any (w : World) (mb : Nat) (m : Mv) (e2 : Value) (lb : Nat) (F2 G : List Nat) (x : Ent) (h : MovF w mb m e2 lb F2 G) (hx : okE x) (h0 : 0 <= m.cp) (h1 : m.cp <= 2304) :
  Calls Tryz.prog 82 #[ptrV mb, rteV x.a x.l x.n] w fun r w' => (∃ F', MovF w' mb (m.lay x) e2 lb F' G /\ NewF w F2 F') /\ Only (mb :: F2) w w' /\ r = .returned (.tuple #[]) := by
 have hml := h.lt
 have hE := h.eng
 obtain ⟨T, p, fl, ft, fc, D⟩ := hE.disp
 have ml := D.ml.m
 have nl := D.ml.n
 have cl := D.ml.c
 have eq := D.eq
 obtain ⟨xa, xl, xn⟩ := x
 have c0 : w.cell? ⟨mb, 0, none⟩ = some e2 := by simp [World.cell?, h.blk]
 have m1 : mb < w.heap.size + 1 := by omega
 have hFl := hE.lt
 have nwF : w.heap.size ∉ F2 := fun h1 => by have := hFl _ h1; omega
 have n2 : mb ∉ F2 := h.n2
 have hwr : IntKind.i64.wrap (m.cp + 1) = m.cp + 1 := by rw [IntKind.wrap_i64]; omega
 have Hlay := hide (fun W (hW : Below w.heap.size w W) => D.lay W m.ys F2 xa xl xn (hE.later hW) hx)
 have HM := hide h
 have Hblk := hide h.blk
 have hbx : ∀ o, (w.alloc (Obj.cells #[.int .i64 xa, .int .i64 xl, .int .i64 xn] 90)).drew.cell? ⟨mb, o, none⟩ = w.cell? ⟨mb, o, none⟩ := fun o => ((Below.refl _ w).alloc (Nat.le_refl _) _).cell (p := ⟨mb, o, none⟩) hml
 have Hb0 := hide hbx
 clear D hE h hbx
 subst eq
 go_enter Tryz.func82, Tryz.ntmps82
 go_wp2
 go_region_held3 (fun w' => w'.cell? ⟨mb, 0, none⟩ = some (.iface T (ptrV p)) /\ w'.cell? ⟨w.heap.size, 0, none⟩ = some (.int .i64 xa) /\ w'.cell? ⟨w.heap.size, 1, none⟩ = some (.int .i64 xl) /\ w'.cell? ⟨w.heap.size, 2, none⟩ = some (.int .i64 xn)) (go_keep)
  ((refine (Hlay.out _ (by repeat (first | exact Below.refl _ _ | refine below_drewN ?_ _ | refine Below.drew ?_ | refine Below.trans ?_ (Below.mono (by assumption) ?_) | refine Below.alloc ?_ ?_ _ | refine Below.setCell ?_ ?_ _ | omega | (simp; omega) | simp))).mono ?_; rintro _ w2 ⟨hF2, hO, rfl⟩; (have hc1 : ∀ o, w2.cell? ⟨mb, o, none⟩ = (w.alloc (Obj.cells #[.int .i64 xa, .int .i64 xl, .int .i64 xn] 90)).cell? ⟨mb, o, none⟩ := fun o => hO.cell (by simp; omega) n2); (have hc2 : ∀ o, w2.cell? ⟨w.heap.size, o, none⟩ = (w.alloc (Obj.cells #[.int .i64 xa, .int .i64 xl, .int .i64 xn] 90)).cell? ⟨w.heap.size, o, none⟩ := fun o => hO.cell (by simp) nwF)))
 have hs2 := hO.size
 simp at hs2
 have hbk2 : w2.heap[mb]? = some (.cells #[.iface T (ptrV p), .int .i64 m.ph, .int .i64 m.cp, .int .i64 m.ca, .int .i64 m.cl, ptrV lb] 101 (0, 0)) := ((hO.block mb (by simp; omega) n2).trans (Below.heap_alloc w _ mb hml)).trans Hblk.out
 have k2 : w2.cell? ⟨mb, 2, none⟩ = some (.int .i64 m.cp) := by simp [World.cell?, hbk2]
 have f2 : ∀ o, w2.frozen? ⟨mb, o, none⟩ = false := fun o => by simp [World.frozen?, hbk2]
 have b0 : w2.cell? ⟨w.heap.size, 0, none⟩ = some (.int .i64 xa) := (hc2 0).trans (by simp)
 have b1 : w2.cell? ⟨w.heap.size, 1, none⟩ = some (.int .i64 xl) := (hc2 1).trans (by simp)
 have b2 : w2.cell? ⟨w.heap.size, 2, none⟩ = some (.int .i64 xn) := (hc2 2).trans (by simp)
 have ne1 : ¬ (w.heap.size = mb) := by omega
 have z2 : mb < w2.heap.size := by omega
 have fin := hide (show ∀ w4, Below w2.heap.size (w2.setCell ⟨mb, 2, none⟩ (.int .i64 (m.cp + 1))) w4 -> w4.heap[mb]? = some (.cells #[.iface T (ptrV p), .int .i64 m.ph, .int .i64 (m.cp + 1), .int .i64 m.ca, .int .i64 m.cl, ptrV lb] 101 (0, 0)) /\ (∃ F', MovF ((w4.setCell ⟨mb, 3, none⟩ (.int .i64 xa)).setCell ⟨mb, 4, none⟩ (.int .i64 xl)) mb (m.lay ⟨xa, xl, xn⟩) (.iface T (ptrV p)) lb F' G /\ NewF w F2 F') /\ Only (mb :: F2) w ((w4.setCell ⟨mb, 3, none⟩ (.int .i64 xa)).setCell ⟨mb, 4, none⟩ (.int .i64 xl)) from fun w4 hb4 => by
  obtain ⟨F', q1, q2⟩ := hF2
  have hN : NewF w F2 F' := fun k hk => (q2 k hk).imp id fun h1 => by simp at h1; omega
  have hnF' : mb ∉ F' := fun hk => (hN mb hk).elim n2 (fun h1 => by omega)
  have hO2 : Only F2 w w2 := (Only.of_below _ (show Below w.heap.size w (w.alloc (Obj.cells #[.int .i64 xa, .int .i64 xl, .int .i64 xn] 90)).drew from (by repeat (first | exact Below.refl _ _ | refine below_drewN ?_ _ | refine Below.drew ?_ | refine Below.trans ?_ (Below.mono (by assumption) ?_) | refine Below.alloc ?_ ?_ _ | refine Below.setCell ?_ ?_ _ | omega | (simp; omega) | simp)))).trans hO (fun x hx => .inl hx)
  have hk4 : ∀ k, k < w2.heap.size -> k ≠ mb -> w4.heap[k]? = w2.heap[k]? := fun k hk hn => (hb4.block k hk).trans (Below.heap_setCell _ ⟨mb, 2, none⟩ _ _ hn)
  have hm3 := cellsSet w2 mb 2 _ _ _ (.int .i64 (m.cp + 1)) hbk2
  have hm4 := (hb4.block mb z2).trans hm3
  have hm5 := cellsSet w4 mb 3 _ _ _ (.int .i64 xa) hm4
  have hm6 := cellsSet _ mb 4 _ _ _ (.int .i64 xl) hm5
  have hk6 : ∀ k, k < w2.heap.size -> k ≠ mb -> ((w4.setCell ⟨mb, 3, none⟩ (.int .i64 xa)).setCell ⟨mb, 4, none⟩ (.int .i64 xl)).heap[k]? = w2.heap[k]? := fun k hk hn => ((Below.heap_setCell _ ⟨mb, 4, none⟩ _ _ hn).trans (Below.heap_setCell _ ⟨mb, 3, none⟩ _ _ hn)).trans (hk4 k hk hn)
  have hOf : Only (mb :: F2) w ((w4.setCell ⟨mb, 3, none⟩ (.int .i64 xa)).setCell ⟨mb, 4, none⟩ (.int .i64 xl)) := by
   have hs4 := hb4.size
   refine ⟨hb4.os.trans hO2.os, hb4.tape.trans hO2.tape, hb4.output.trans hO2.output, ?_, fun k hk hn => ?_⟩
   ·have := hO2.size
    simp [World.setCell] at hs4 ⊢
    omega
   ·simp at hn
    exact (hk6 k (by have := hO2.size; omega) hn.1).trans (hO2.block k hk hn.2)
  exact ⟨hm4, ⟨F', HM.out.turn hm6 (q1.kept fun k hk => hk6 k (q1.lt k hk) (fun e => hnF' (e ▸ hk))) rfl rfl hN hOf, hN⟩, hOf⟩)
 clear hF2 hO hc1 hc2 Hlay HM Hblk Hb0 hbk2
 go_wp2_with fail
 refine (of_any _ _ _ _).mono ?_
 rintro _ w4 ⟨rfl, hb4⟩
 have hb4' : Below w2.heap.size (w2.setCell ⟨mb, 2, none⟩ (.int .i64 (m.cp + 1))) w4 := hb4.mono (by simp [World.setCell])
 obtain ⟨hm4, fin4⟩ := fin.out w4 hb4'
 have g3 : w4.cell? ⟨mb, 3, none⟩ = some (.int .i64 m.ca) := by simp [World.cell?, hm4]
 have g4 : w4.cell? ⟨mb, 4, none⟩ = some (.int .i64 m.cl) := by simp [World.cell?, hm4]
 have g5 : ∀ o, w4.frozen? ⟨mb, o, none⟩ = false := fun o => by simp [World.frozen?, hm4]
 have Fin := hide fin4
 clear fin4 hm4 fin hb4 hb4'
 go_wp2
 go_end0
 exact ⟨Fin.out.1, Fin.out.2, rfl⟩
end Go.Proofs.YtglbamalagacgaaGreat

namespace Go.Proofs.YtglbamalagacgaaGreat
open Go.RowKit Go.Shelf
attribute [local go_sem] Oper.semAt_some
set_option maxRecDepth 4000 in
set_option maxHeartbeats 1000000 in
theorem catchUp_any (w : World) (mb : Nat) (m : Mv) (e2 : Value) (lb : Nat) (F2 G : List Nat) (e : Value) (xs : List Ent) (F : List Nat) (a l : Int) (lg : List (Int × Int)) (h : MovF w mb m e2 lb F2 G) (hlg : m.lg = (a, l) :: lg) (hp : isPfx a l = true) (hnd : (a, l) ∉ lg) (hn : lg.length <= 1000)
  (hE : EngF w e xs F) (hd : ∀ k ∈ F, k ∉ G) :
  Calls Tryz.prog 84 #[ptrV mb, e] w fun r w' => (∃ F' G', MovF w' mb (m.catch xs) e2 lb F' G' /\ NewF w F2 F' /\ NewF w G G') /\ Only (F2 ++ G) w w' /\ r = .returned (.tuple #[]) := by
 have hml := h.lt
 have c5 : w.cell? ⟨mb, 5, none⟩ = some (ptrV lb) := by simp [World.cell?, h.blk]
 have hlog := h.log
 rw [hlg] at hlog
 have htf := hide (takeFirst_any w lb lg G a l hlog hp hnd hn)
 have hGl := h.log.lt
 have hFl := h.eng.lt
 have hok := ok_orZ (a := a) (l := l) hE.ok
 have nG : mb ∉ G := h.nG
 have n2 : mb ∉ F2 := h.n2
 have HM := hide h
 have hcat : m.catch xs = { m with lg := lg, ys := setE m.ys a l (orZ (getE xs a l)) } := by unfold Mv.catch; rw [hlg]
 have HN := hide (show ∀ W, (∀ k ∈ F, W.heap[k]? = w.heap[k]?) -> Calls Tryz.prog 100 #[e, pfxV a l] W fun r w' => r = .returned (.int .i64 (orZ (getE xs a l))) /\ Below W.heap.size W w' from fun W hW => next_any e xs F a l W (hE.kept hW))
 have HS := hide (show ∀ W, (∀ k ∈ F2, W.heap[k]? = w.heap[k]?) -> Calls Tryz.prog 90 #[e2, pfxV a l, .int .i64 (orZ (getE xs a l))] W fun r w' => (∃ F', EngF w' e2 (setE m.ys a l (orZ (getE xs a l))) F' /\ NewF W F2 F') /\ Only F2 W w' /\ r = .returned (.int .i64 (orZ (getE m.ys a l))) from fun W hW => set_any e2 m.ys F2 a l _ W (h.eng.kept hW) hp hok)
 have hEl := hE.lt
 have heq : ∃ T p, e2 = .iface T (ptrV p) := by obtain ⟨_, _, T, p, q, _⟩ := h.eng; exact ⟨T, p, q⟩
 have heq1 : ∃ T p, e = .iface T (ptrV p) := by obtain ⟨_, _, T, p, q, _⟩ := hE; exact ⟨T, p, q⟩
 have hdj : ∀ k ∈ F2, k ∉ G := h.dj
 generalize orZ (getE xs a l) = nx at *
 generalize orZ (getE m.ys a l) = od at *
 clear h hlog hok hE hlg
 obtain ⟨T2, p2, rfl⟩ := heq
 obtain ⟨T1, p1, rfl⟩ := heq1
 go_enter Tryz.func84, Tryz.ntmps84
 go_wp2_with fail
 refine htf.out.mono ?_
 rintro _ w1 ⟨⟨G1, hL1, hN1⟩, hO1, rfl⟩
 have hs1 := hO1.size
 have hz1 : mb < w1.heap.size := by omega
 have hbk1 := (hO1.block mb hml nG).trans HM.out.blk
 have k0 : w1.cell? ⟨mb, 0, none⟩ = some (.iface T2 (ptrV p2)) := by simp [World.cell?, hbk1]
 have HF := hide (show ∀ k ∈ F, w1.heap[k]? = w.heap[k]? from fun k hk => hO1.block k (hEl k hk) (hd k hk))
 have HF2 := hide (show ∀ k ∈ F2, w1.heap[k]? = w.heap[k]? from fun k hk => hO1.block k (hFl k hk) (hdj k hk))
 have nwF : w1.heap.size ∉ F2 := fun h1 => by have := hFl _ h1; omega
 have m1 : mb < w1.heap.size + 1 := by omega
 have HN1 := hide (show ∀ W, Below w1.heap.size w1 W -> Calls Tryz.prog 100 #[.iface T1 (ptrV p1), pfxV a l] W fun r w' => r = .returned (.int .i64 nx) /\ Below W.heap.size W w' from fun W hW => HN.out W fun k hk => (hW.block k (by have := hEl k hk; omega)).trans (HF.out k hk))
 have HS1 := hide (show ∀ W, Below w1.heap.size w1 W -> Calls Tryz.prog 90 #[.iface T2 (ptrV p2), pfxV a l, .int .i64 nx] W fun r w' => (∃ F', EngF w' (.iface T2 (ptrV p2)) (setE m.ys a l nx) F' /\ NewF W F2 F') /\ Only F2 W w' /\ r = .returned (.int .i64 od) from fun W hW => HS.out W fun k hk => (hW.block k (by have := hFl k hk; omega)).trans (HF2.out k hk))
 have fin := hide (show ∀ W w', Below w1.heap.size w1 W -> (∃ F', EngF w' (.iface T2 (ptrV p2)) (setE m.ys a l nx) F' /\ NewF W F2 F') -> Only F2 W w' -> (∃ F' G', MovF w' mb (m.catch xs) (.iface T2 (ptrV p2)) lb F' G' /\ NewF w F2 F' /\ NewF w G G') /\ Only (F2 ++ G) w w' from fun W w' hW hF hO => by
  obtain ⟨F', q1, q2⟩ := hF
  have hs := hW.size
  have hNF : NewF w F2 F' := fun k hk => (q2 k hk).imp id fun h1 => by omega
  have hO2 : Only F2 w1 w' := (Only.of_below _ hW).trans hO (fun x hx => .inl hx)
  have g1 : ∀ k ∈ G1, k ∉ F2 := fun k hk hf => (hN1 k hk).elim (hdj k hf) (fun h1 => by have := hFl k hf; omega)
  have hOw : Only (F2 ++ G) w w' := ⟨hO2.os.trans hO1.os, hO2.tape.trans hO1.tape, hO2.output.trans hO1.output, by have := hO2.size; omega, fun k hk hn => by
   simp at hn
   exact (hO2.block k (by omega) hn.1).trans (hO1.block k hk hn.2)⟩
  refine ⟨⟨F', G1, ?_, hNF, hN1⟩, hOw⟩
  rw [hcat]
  refine ⟨(hO2.block mb hz1 n2).trans hbk1, q1, HM.out.kind, hL1.kept fun k hk => hO2.block k (hL1.lt k hk) (g1 k hk), fun hk => (hNF mb hk).elim n2 (fun h1 => by omega), fun hk => (hN1 mb hk).elim nG (fun h1 => by omega), fun k hk hg => ?_⟩
  rcases q2 k hk with h1 | h1
  ·exact g1 k hg h1
  ·have := hL1.lt k hg; omega)
 clear htf hL1 hN1 hO1 hbk1 HF HF2 HN HS HM hcat c5
 go_wp2
 go_region_held3 (fun w' => w'.cell? ⟨mb, 0, none⟩ = some (.iface T2 (ptrV p2)) /\ w'.cell? ⟨w1.heap.size, 0, none⟩ = some (.int .i64 a) /\ w'.cell? ⟨w1.heap.size, 1, none⟩ = some (.int .i64 l)) (go_keep)
  (first
   | (go_at_call 100; refine (HN1.out _ (by repeat (first | exact Below.refl _ _ | refine below_drewN ?_ _ | refine Below.drew ?_ | refine Below.trans ?_ (Below.mono (by assumption) ?_) | refine Below.alloc ?_ ?_ _ | refine Below.setCell ?_ ?_ _ | omega | (simp; omega) | simp))).mono ?_; rintro _ w2 ⟨rfl, hb⟩; have hc := (bcell hb).1; (have hB2 : Below w1.heap.size w1 w2 := ((Below.refl _ w1).alloc (Nat.le_refl _) _).drew.trans (hb.mono (by simp))); (have hz2 : w1.heap.size < w2.heap.size := by have := hb.size; simp at this; omega); (have hz3 : mb < w2.heap.size := by omega))
   | (go_at_call 90; refine (HS1.out _ hB2).mono ?_; rintro _ w3 ⟨hF3, hO3, rfl⟩; (have hc1 : ∀ o, w3.cell? ⟨mb, o, none⟩ = w2.cell? ⟨mb, o, none⟩ := fun o => hO3.cell hz3 n2); (have hc2 : ∀ o, w3.cell? ⟨w1.heap.size, o, none⟩ = w2.cell? ⟨w1.heap.size, o, none⟩ := fun o => hO3.cell hz2 nwF)))
 have Fin := hide (fin.out w2 w3 hB2 hF3 hO3)
 clear hF3 hO3 hc1 hc2 hc hb hB2 fin HS1 HN1
 go_wp2
 go_end0
 exact ⟨Fin.out.1, Fin.out.2, rfl⟩
set_option maxHeartbeats 400000 in
theorem newMove_any (w : World) (e2 : Value) (k : Int) (F2 : List Nat) (hE : EngF w e2 [] F2) (hk : kindE e2 = k) :
  Calls Tryz.prog 57 #[e2] w fun r w' => ∃ mb lb G, r = .returned (ptrV mb) /\ Below w.heap.size w w' /\ MovF w' mb (mv0 k) e2 lb F2 G /\ w.heap.size <= mb /\ ∀ x ∈ G, w.heap.size <= x := by
 have hFl := hE.lt
 have heq : ∃ T p, e2 = .iface T (ptrV p) := by obtain ⟨_, _, T, p, q, _⟩ := hE; exact ⟨T, p, q⟩
 obtain ⟨T2, p2, rfl⟩ := heq
 have HE := hide hE
 clear hE
 go_enter Tryz.func57, Tryz.ntmps57
 go_wp2_with fail
 refine (first_any _).mono ?_
 rintro _ w1 ⟨rfl, hb1⟩
 go_wp2_with fail
 refine (newLog_any _).mono ?_
 rintro _ w2 ⟨lb, G, rfl, hb2, hL, hG⟩
 have hs1 := hb1.size
 have fin := hide (show ∃ mb lb' G', Ending.returned (ptrV w2.heap.size) = .returned (ptrV mb) /\ Below w.heap.size w (w2.alloc (.cells #[.iface T2 (ptrV p2), .int .i64 1, .int .i64 0, .int .i64 0, .int .i64 0, ptrV lb] 101)) /\ MovF (w2.alloc (.cells #[.iface T2 (ptrV p2), .int .i64 1, .int .i64 0, .int .i64 0, .int .i64 0, ptrV lb] 101)) mb (mv0 k) (.iface T2 (ptrV p2)) lb' F2 G' /\ w.heap.size <= mb /\ ∀ x ∈ G', w.heap.size <= x from by
  have hB2 : Below w.heap.size w w2 := hb1.trans (hb2.mono hs1)
  have hB3 : Below w2.heap.size w2 (w2.alloc (.cells #[.iface T2 (ptrV p2), .int .i64 1, .int .i64 0, .int .i64 0, .int .i64 0, ptrV lb] 101)) := (Below.refl _ w2).alloc (Nat.le_refl _) _
  have hs2 := hB2.size
  refine ⟨w2.heap.size, lb, G, rfl, hB2.trans (hB3.mono hs2), ⟨World.alloc_heap_new w2 _, HE.out.later (hB2.trans (hB3.mono hs2)), hk, hL.later hB3, fun h => by have := hFl _ h; omega, fun h => by have := hL.lt _ h; omega, fun k hk hg => by have := hFl k hk; have := hG k hg; omega⟩, hs2, fun x hx => by have := hG x hx; omega⟩)
 clear hL hG hb1 hb2 HE
 go_wp2
 go_ret
 exact fin.out
end Go.Proofs.YtglbamalagacgaaGreat

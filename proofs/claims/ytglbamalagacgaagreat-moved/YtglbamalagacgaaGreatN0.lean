import Derived.Test.YtglbamalagacgaaGreatE2
import Derived.Test.YtglbamalagacgaaGreatF0
import Derived.Test.YtglbamalagacgaaGreatT4
namespace Go.Proofs.YtglbamalagacgaaGreat
open Go.RowKit Go.Shelf
attribute [local go_sem] Oper.semAt_some
def longs (xs : List Ent) : Nat := (xs.filter fun x => decide (5 <= x.l)).length
def advR (xs : List Ent) : Int := if xs.length <= 8 then 1 else if xs.length < 2 * longs xs then 2 else 3
theorem from_all {xs : List Ent} (h : ∀ x ∈ xs, okE x) : fromE xs 0 0 = xs := by
 refine List.filter_eq_self.2 fun x hx => ?_
 have := (isPfx_iff _ _).1 (h x hx).1
 have hk : ¬ klt x.a x.l 0 0 := by unfold klt; omega
 simp only [hk, decide_false, Bool.not_false]
theorem longs_le (xs : List Ent) : longs xs <= xs.length := List.length_filter_le _ _
structure AdI (w w3 W : World) (n k : Nat) : Prop where
 b0 : W.heap[w.heap.size]? = some (.cells #[.int .i64 (n : Int)] 3 (0, 0))
 b1 : W.heap[w.heap.size + 1]? = some (.cells #[.int .i64 (k : Int)] 3 (0, 0))
 only : Only [w.heap.size, w.heap.size + 1] w3 W
def adI (w w3 : World) (xs : List Ent) (pre : List { x : Ent // x ∈ xs }) (W : World) : Prop := AdI w w3 W pre.length (longs (pre.map (·.1)))
theorem AdI.soft {w w3 A B : World} {n k : Nat} (h : AdI w w3 A n k) (hs : Soft w3.heap.size A B) : AdI w w3 B n k :=
 ⟨hs.block _ _ h.b0 (.inr rfl), hs.block _ _ h.b1 (.inr rfl), ⟨hs.os.trans h.only.os, hs.tape.trans h.only.tape, hs.output.trans h.only.output, Nat.le_trans h.only.size hs.size, fun k hk hn => (hs.blk (by have := h.only.size; omega) (.inl hk)).trans (h.only.block k hk hn)⟩⟩
theorem AdI.inc0 {w w3 A : World} {n k : Nat} (h : AdI w w3 A n k) : AdI w w3 (A.setCell ⟨w.heap.size, 0, none⟩ (.int .i64 ((n : Int) + 1))) (n + 1) k := by
 obtain ⟨a1, a2, a3⟩ := setT' h.b0 0 (.int .i64 ((n : Int) + 1))
 exact ⟨by rw [a1]; simp, (a2 _ (by omega)).trans h.b1, ⟨h.only.os, h.only.tape, h.only.output, by have := h.only.size; omega, fun k hk hn => (a2 k (fun e => hn (by simp [e]))).trans (h.only.block k hk hn)⟩⟩
theorem AdI.inc1 {w w3 A : World} {n k : Nat} (h : AdI w w3 A n k) : AdI w w3 (A.setCell ⟨w.heap.size + 1, 0, none⟩ (.int .i64 ((k : Int) + 1))) n (k + 1) := by
 obtain ⟨a1, a2, a3⟩ := setT' h.b1 0 (.int .i64 ((k : Int) + 1))
 exact ⟨(a2 _ (by omega)).trans h.b0, by rw [a1]; simp, ⟨h.only.os, h.only.tape, h.only.output, by have := h.only.size; omega, fun k hk hn => (a2 k (fun e => hn (by simp [e]))).trans (h.only.block k hk hn)⟩⟩
def advO (w : World) (_ : World) (k : Nat) : Prop := k = w.heap.size ∨ k = w.heap.size + 1
theorem advO_set {w A : World} {b : Nat} (hb : b = w.heap.size ∨ b = w.heap.size + 1) (v : Value) : KOwn (advO w) A (A.setCell ⟨b, 0, none⟩ v) :=
 ⟨by simp [World.setCell], fun k o hk ho hn => ⟨(Below.heap_setCell _ ⟨b, 0, none⟩ _ _ (fun e => hn (by rw [show k = b from e]; exact hb))).trans hk, hn⟩⟩
theorem longs_snoc (xs : List Ent) (x : Ent) : longs (xs ++ [x]) = if 5 <= x.l then longs xs + 1 else longs xs := by
 unfold longs
 rw [List.filter_append]
 by_cases h : 5 <= x.l
 ·simp [h]
 ·simp [h]
set_option maxRecDepth 4000 in
set_option maxHeartbeats 2000000 in
theorem advise_any (w : World) (t : Nat) (e : Value) (xs : List Ent) (F : List Nat) (t0 : w.cell? ⟨t, 0, none⟩ = some e) (hE : EngF w e xs F) :
  Calls Tryz.prog 62 #[ptrV t] w fun r w' => r = .returned (.int .i64 (advR xs)) /\ Below w.heap.size w w' := by
 have tl := World.block_lt_of_cell? w _ t0
 simp only at tl
 obtain ⟨T, p, ff, D⟩ := hE.dispI
 have eq := D.eq
 have mf := D.mf.m
 have nf := D.mf.n
 have cf := D.mf.c
 have hFl := hE.lt
 have hfr := hide (show ∀ W, Below w.heap.size w W -> Calls Tryz.prog ff #[ptrV p, pfxV 0 0] W (FromP xs F 0 0 W) from fun W hW => D.frm W xs F 0 0 (hE.later hW))
 have hlen := ok_len hE.sorted hE.ok
 have hall := hide (from_all hE.ok)
 obtain ⟨w1, hw1⟩ : ∃ w1, w1 = (w.alloc (Obj.cells #[.int .i64 0] 3)).alloc (Obj.cells #[.int .i64 0] 3) := ⟨_, rfl⟩
 have hB1 : Below w.heap.size w w1 := by rw [hw1]; exact (by repeat (first | exact Below.refl _ _ | refine below_drewN ?_ _ | refine Below.drew ?_ | refine Below.trans ?_ (Below.mono (by assumption) ?_) | refine Below.alloc ?_ ?_ _ | refine Below.setCell ?_ ?_ _ | omega | (simp; omega) | simp))
 have hz1 : w1.heap.size = w.heap.size + 2 := by rw [hw1]; simp
 have o0 : w1.heap[w.heap.size]? = some (.cells #[.int .i64 0] 3 (0, 0)) := by rw [hw1]; exact (Below.heap_alloc _ _ _ (by simp)).trans (World.alloc_heap_new w _)
 have o1 : w1.heap[w.heap.size + 1]? = some (.cells #[.int .i64 0] 3 (0, 0)) := by
  rw [hw1]
  have := World.alloc_heap_new (w.alloc (Obj.cells #[.int .i64 0] 3)) (Obj.cells #[.int .i64 0] 3)
  rwa [World.size_alloc] at this
 have x0 : w1.cell? ⟨t, 0, none⟩ = some e := (hB1.cell (p := ⟨t, 0, none⟩) tl).trans t0
 have zt : t < w1.heap.size := by omega
 have HO := hide (And.intro o0 o1)
 have HZ := hide hz1
 have HW := hide hw1
 clear D hE o0 o1 hw1 hz1 t0
 subst eq
 refine (callsIn_wide (n := 5)).1 ?_
 refine callsIn_of_wp_marks Tryz.func62 rfl trivial ?_ rfl
 refine wpIn_wide.2 ?_
 simp only [Tryz.ntmps62, List.size_toArray, List.length_cons, List.length_nil, Nat.reduceAdd, Nat.reduceSub, Array.replicate_succ, Array.replicate_zero, List.push_toArray, List.append_toArray, List.nil_append, List.cons_append]
 go_wp2
 rw [<- HW.out]
 go_region_held3 (fun w' => w'.cell? ⟨t, 0, none⟩ = some (.iface T (ptrV p))) (go_keep)
  (first
   | (go_at_call 97; refine (first_any _).mono ?_; rintro _ w2 ⟨rfl, hb2⟩; (have hB2 : Below w1.heap.size w1 w2 := (Below.refl _ w1).drew.trans hb2); (have hc1 : ∀ o, w2.cell? ⟨t, o, none⟩ = w1.cell? ⟨t, o, none⟩ := fun o => hB2.cell (p := ⟨t, o, none⟩) zt))
   | (refine (hfr.out _ (hB1.trans (hB2.mono (by have := HZ.out; omega)))).mono ?_; rintro _ w3 ⟨g, lb, rfl, hb3, eg, hseq⟩; (have hB3 : Below w1.heap.size w1 w3 := hB2.trans (hb3.mono hB2.size)); (have hc2 : ∀ o, w3.cell? ⟨t, o, none⟩ = w1.cell? ⟨t, o, none⟩ := fun o => hB3.cell (p := ⟨t, o, none⟩) zt)))
 have hseq := hseq (fun x => x ∈ xs) (fun x hx => hx)
 have hz3 := hB3.size
 have hI0 : adI w w3 xs [] w3 := ⟨(hB3.block _ (by have := HZ.out; omega)).trans HO.out.1, (hB3.block _ (by have := HZ.out; omega)).trans HO.out.2, Only.refl _ _⟩
 have hBw3 : Below w.heap.size w w3 := hB1.trans (hB3.mono (by have := HZ.out; omega))
 have HBW3 := hide hBw3
 have hs3 : w.heap.size + 2 <= w3.heap.size := by have := HZ.out; omega
 clear hfr hb3 hb2 hc1 hc2 hB2 hB3 hBw3 hz3
 go_wp2
 refine wpIn_wide.1 (range_law (α := { x : Ent // x ∈ xs }) (gf := g) (lb := lb) rfl eg hseq (Below.refl _ _) (fun _ => rfl)
  (advO w) (adI w w3 xs) (fun _ _ _ => False)
  ?hF ?hOl ?hI (fun _ _ _ _ h _ => h) hI0 ?hround ?hdone (fun _ _ _ _ _ _ h _ => h.elim))
 case hF =>
  rintro k hk (rfl | rfl)
  ·have := hFl _ hk; omega
  ·have := hFl _ hk; omega
 case hOl =>
  rintro s A h k (rfl | rfl)
  ·exact (Array.getElem?_eq_some_iff.1 h.b0).1
  ·exact (Array.getElem?_eq_some_iff.1 h.b1).1
 case hI =>
  rintro s A B h hs
  exact ⟨AdI.soft h hs, fun k hk => hk⟩
 case hround =>
  rintro l' pre x W3 hl1 hl2 hP hpn
  have hBq : Below W3.heap.size W3 (W3.alloc (Obj.cells #[.int .i64 x.1.a, .int .i64 x.1.l, .int .i64 x.1.n] 90)) := (Below.refl _ W3).alloc (Nat.le_refl _) _
  gi_wp2
  refine ⟨Soft.of_below hBq, Firm.of_below hBq, ?_⟩
  intro W4 hs4
  have h4 := AdI.soft hP ((Soft.of_below hBq).trans hs4)
  have r0 : W4.heap[W3.heap.size]? = some (.cells #[.int .i64 x.1.a, .int .i64 x.1.l, .int .i64 x.1.n] 90 (0, 0)) := hs4.block _ _ (World.alloc_heap_new W3 _) (.inr rfl)
  have hz3 := hP.only.size
  obtain ⟨⟨xa, xl, xn⟩, hx⟩ := x
  simp only at r0
  have s1 : W4.cell? ⟨W3.heap.size, 1, none⟩ = some (.int .i64 xl) := by simp [World.cell?, r0]
  have k0 : W4.cell? ⟨w.heap.size, 0, none⟩ = some (.int .i64 (pre.length : Int)) := by simp [World.cell?, h4.b0]
  have k1 : W4.cell? ⟨w.heap.size + 1, 0, none⟩ = some (.int .i64 (longs (pre.map (·.1)) : Int)) := by simp [World.cell?, h4.b1]
  have f0 : W4.frozen? ⟨w.heap.size, 0, none⟩ = false := by simp [World.frozen?, h4.b0]
  have f1 : W4.frozen? ⟨w.heap.size + 1, 0, none⟩ = false := by simp [World.frozen?, h4.b1]
  have hll := longs_le (pre.map (·.1))
  rw [List.length_map] at hll
  have e1 : IntKind.i64.wrap ((pre.length : Int) + 1) = (pre.length : Int) + 1 := by rw [IntKind.wrap_i64]; omega
  have e2 : IntKind.i64.wrap ((longs (pre.map (·.1)) : Int) + 1) = (longs (pre.map (·.1)) : Int) + 1 := by rw [IntKind.wrap_i64]; omega
  have ne1 : ¬ (W3.heap.size = w.heap.size) := by omega
  have ne2 : ¬ (w.heap.size + 1 = w.heap.size) := by omega
  by_cases h5 : 5 <= xl
  ·have hd : decide (5 <= xl) = true := decide_eq_true h5
   have fin := hide (show Firm w3.heap.size W4 ((W4.setCell ⟨w.heap.size, 0, none⟩ (.int .i64 ((pre.length : Int) + 1))).setCell ⟨w.heap.size + 1, 0, none⟩ (.int .i64 ((longs (pre.map (·.1)) : Int) + 1))) /\ KOwn (advO w) W4 ((W4.setCell ⟨w.heap.size, 0, none⟩ (.int .i64 ((pre.length : Int) + 1))).setCell ⟨w.heap.size + 1, 0, none⟩ (.int .i64 ((longs (pre.map (·.1)) : Int) + 1))) /\ adI w w3 xs (pre ++ [⟨⟨xa, xl, xn⟩, hx⟩]) ((W4.setCell ⟨w.heap.size, 0, none⟩ (.int .i64 ((pre.length : Int) + 1))).setCell ⟨w.heap.size + 1, 0, none⟩ (.int .i64 ((longs (pre.map (·.1)) : Int) + 1))) from by
    refine ⟨(Firm.setCell _ _ _).trans (Firm.setCell _ _ _), (advO_set (.inl rfl) _).trans (advO_set (.inr rfl) _), ?_⟩
    have q := h4.inc0.inc1
    unfold adI
    rw [List.length_append, List.length_singleton, List.map_append, List.map_cons, List.map_nil, longs_snoc, if_pos h5]
    exact q)
   clear hs4 hBq hP h4 r0
   generalize longs (pre.map (·.1)) = lg at *
   gi_wp2
   exact fin.out
  ·have hd : decide (5 <= xl) = false := decide_eq_false h5
   have fin := hide (show Firm w3.heap.size W4 (W4.setCell ⟨w.heap.size, 0, none⟩ (.int .i64 ((pre.length : Int) + 1))) /\ KOwn (advO w) W4 (W4.setCell ⟨w.heap.size, 0, none⟩ (.int .i64 ((pre.length : Int) + 1))) /\ adI w w3 xs (pre ++ [⟨⟨xa, xl, xn⟩, hx⟩]) (W4.setCell ⟨w.heap.size, 0, none⟩ (.int .i64 ((pre.length : Int) + 1))) from by
    refine ⟨Firm.setCell _ _ _, advO_set (.inl rfl) _, ?_⟩
    have q := h4.inc0
    unfold adI
    rw [List.length_append, List.length_singleton, List.map_append, List.map_cons, List.map_nil, longs_snoc, if_neg h5]
    exact q)
   clear hs4 hBq hP h4 r0
   gi_wp2
   exact fin.out
 case hdone =>
  rintro D ys W3 hD hS3 hP hK
  rw [hall.out] at hS3
  have hyl : ys.length = xs.length := by have := congrArg List.length hS3; rwa [List.length_map] at this
  unfold adI at hP
  rw [hyl, hS3] at hP
  have k0 : W3.cell? ⟨w.heap.size, 0, none⟩ = some (.int .i64 (xs.length : Int)) := by simp [World.cell?, hP.b0]
  have k1 : W3.cell? ⟨w.heap.size + 1, 0, none⟩ = some (.int .i64 (longs xs : Int)) := by simp [World.cell?, hP.b1]
  have hll := longs_le xs
  have hw2 : IntKind.i64.wrap (2 * (longs xs : Int)) = 2 * (longs xs : Int) := by rw [IntKind.wrap_i64]; omega
  have hBs : Soft w3.heap.size W3 (W3.putObj D (.deferred none)) := Soft.putObj _ hK hD rfl
  have hP2 := hP.soft hBs
  have fin := hide (show Below w.heap.size w (W3.putObj D (.deferred none)) from by
   have hb := HBW3.out
   refine ⟨hP2.only.os.trans hb.os, hP2.only.tape.trans hb.tape, hP2.only.output.trans hb.output, by have := hP2.only.size; have := hb.size; omega, fun k hk => (hP2.only.block k (by omega) (by simp; omega)).trans (hb.block k hk)⟩)
  have HK := hide hK
  by_cases h8 : xs.length <= 8
  ·have d8 : decide ((xs.length : Int) <= 8) = true := decide_eq_true (by omega)
   have ea : advR xs = 1 := by unfold advR; rw [if_pos h8]
   have HA := hide ea
   clear hK hP hP2 hBs hS3 hyl ea
   gi_wp2
   go_wp2
   refine ⟨by simp, .inl ⟨_, _, rfl, run_takeDeferred HK.out, ?_⟩⟩
   exact ⟨.int .i64 1, by simp [results, Tryz.results62, go_sem], by rw [HA.out], fin.out⟩
  ·have d8 : decide ((xs.length : Int) <= 8) = false := decide_eq_false (by omega)
   by_cases h2 : xs.length < 2 * longs xs
   ·have d2 : decide ((xs.length : Int) < 2 * (longs xs : Int)) = true := decide_eq_true (by omega)
    have ea : advR xs = 2 := by unfold advR; rw [if_neg h8, if_pos h2]
    have HA := hide ea
    clear hK hP hP2 hBs hS3 hyl ea
    gi_wp2
    go_wp2
    refine ⟨by simp, .inl ⟨_, _, rfl, run_takeDeferred HK.out, ?_⟩⟩
    exact ⟨.int .i64 2, by simp [results, Tryz.results62, go_sem], by rw [HA.out], fin.out⟩
   ·have d2 : decide ((xs.length : Int) < 2 * (longs xs : Int)) = false := decide_eq_false (by omega)
    have ea : advR xs = 3 := by unfold advR; rw [if_neg h8, if_neg h2]
    have HA := hide ea
    clear hK hP hP2 hBs hS3 hyl ea
    gi_wp2
    go_wp2
    refine ⟨by simp, .inl ⟨_, _, rfl, run_takeDeferred HK.out, ?_⟩⟩
    exact ⟨.int .i64 3, by simp [results, Tryz.results62, go_sem], by rw [HA.out], fin.out⟩
end Go.Proofs.YtglbamalagacgaaGreat

namespace Go.Proofs.YtglbamalagacgaaGreat
open Go.RowKit Go.Shelf
abbrev TT (w : World) (t : Nat) (s : TS) (A : List Nat) : Prop := tab3.T w t s A
def TurnP (w : World) (t : Nat) (A : List Nat) (v : Value) (s' : TS) (r : Ending) (w' : World) : Prop := ∃ A', r = .returned v /\ TT w' t s' A' /\ NewF w A A' /\ Only A w w'
section
variable {w w' : World} {t : Nat} {s : TS} {A : List Nat}
theorem TT.ok (h : TT w t s A) : s.Ok := h.1
theorem TT.lt (h : TT w t s A) : ∀ k ∈ A, k < w.heap.size := tab3.lt h
theorem TT.kept (h : TT w t s A) (hk : ∀ k ∈ A, w'.heap[k]? = w.heap[k]?) : TT w' t s A := tab3.kept h hk
theorem TT.later (h : TT w t s A) (hB : Below w.heap.size w w') : TT w' t s A := tab3.kept h fun k hk => hB.block k (tab3.lt h k hk)
theorem TT.st {c : Int} {s' : TS} {F H : List Nat} {r : Ending} (ho : s'.Ok) (h : StPost w t F H c s' r w') : TurnP w t (t :: (F ++ H)) (.int .i64 c) s' r w' := by
 obtain ⟨e', pm', F', H', p1, p2, p3, p4⟩ := h
 exact ⟨_, p1, ⟨ho, e', pm', F', H', p2, rfl⟩, p3, p4⟩
theorem add_okS (hs : s.Ok) (a l n : Int) : (s.add a l n).2.Ok := by
 unfold TS.add
 split
 ·exact hs
 split
 ·exact hs
 ·exact (one_ok hs a l n).1
theorem TT.add (h : TT w t s A) (a l n : Int) : Calls Tryz.prog 59 #[ptrV t, pfxV a l, .int .i64 n] w (TurnP w t A (.int .i64 (s.add a l n).1) (s.add a l n).2) := by
 obtain ⟨hs, e, pm, F, H, hT, rfl⟩ := h
 exact (tabAdd3_any w t e s pm F H a l n hT hs).mono fun r w' hp => TT.st (add_okS hs a l n) hp
theorem TT.del (h : TT w t s A) (a l : Int) : Calls Tryz.prog 60 #[ptrV t, pfxV a l] w (TurnP w t A (.int .i64 (s.one a l 0).1) (s.one a l 0).2) := by
 obtain ⟨hs, e, pm, F, H, hT, rfl⟩ := h
 exact (tabDelete3_any w t e s pm F H a l hT hs).mono fun r w' hp => TT.st (one_ok hs a l 0).1 hp
theorem TT.apply (h : TT w t s A) (v : Value) (cs : List Chg) (hv : ChgsAt w v cs) (hva : Apart v A) : Calls Tryz.prog 22 #[ptrV t, v] w (TurnP w t A (.tuple #[.int .i64 (s.apply cs).1, .int .i64 (s.apply cs).2.1]) (s.apply cs).2.2) := by
 obtain ⟨hs, e, pm, F, H, hT, rfl⟩ := h
 refine (apply3_any w t e s pm F H v cs hT hs hv hva).mono ?_
 rintro r w' ⟨pm', F', H', q1, q2, q3, q4⟩
 exact ⟨_, q1, ⟨apply_ok hs cs, e, pm', F', H', q2, rfl⟩, q3, q4⟩
theorem TT.move (h : TT w t s A) (k : Int) : Calls Tryz.prog 24 #[ptrV t, .int .i64 k] w (TurnP w t A (.int .i64 (s.move k).1) (s.move k).2) := by
 obtain ⟨hs, e, pm, F, H, hT, rfl⟩ := h
 exact (tmove_any w t e s pm F H k hT).mono fun r w' hp => TT.st (move_ok hs k).1 hp
theorem TT.step (h : TT w t s A) : Calls Tryz.prog 17 #[ptrV t] w (TurnP w t A (.int .i64 s.step.1) s.step.2) := by
 obtain ⟨hs, e, pm, F, H, hT, rfl⟩ := h
 exact (tstep_any w t e s pm F H hT hs).mono fun r w' hp => TT.st (step_ok hs).ok hp
theorem TT.abort (h : TT w t s A) : Calls Tryz.prog 25 #[ptrV t] w (TurnP w t A (.int .i64 s.abort.1) s.abort.2) := by
 obtain ⟨hs, e, pm, F, H, hT, rfl⟩ := h
 exact (tabort_any w t e s pm F H hT).mono fun r w' hp => TT.st (abort_ok hs).1 hp
def TS.setb (s : TS) (n : Int) : Int × TS := if 1 <= n /\ n <= 400 then (0, { s with b := n }) else (11, s)
theorem TT.setb (h : TT w t s A) (n : Int) : Calls Tryz.prog 39 #[ptrV t, .int .i64 n] w (TurnP w t A (.int .i64 (s.setb n).1) (s.setb n).2) := by
 obtain ⟨hs, e, pm, F, H, hT, rfl⟩ := h
 refine (setBudget_any w t e s pm F H n hT).mono ?_
 rintro r w' (⟨h1, rfl, rfl⟩ | ⟨h1, h2, rfl, q1, q2⟩)
 ·unfold TS.setb
  rw [if_neg h1]
  exact ⟨_, rfl, ⟨hs, e, pm, F, H, hT, rfl⟩, NewF.refl _ _, Only.refl _ _⟩
 ·unfold TS.setb
  rw [if_pos ⟨h1, h2⟩]
  exact ⟨_, rfl, ⟨setb_ok hs h1 h2, e, pm, F, H, q1, rfl⟩, NewF.refl _ _, q2.mono (fun x hx _ => by simp at hx; simp [hx])⟩
theorem TT.get (h : TT w t s A) (a l : Int) : Calls Tryz.prog 61 #[ptrV t, pfxV a l] w fun r w' => r = .returned (.tuple #[.int .i64 (getR s.xs a l).1, .int .i64 (getR s.xs a l).2]) /\ Below w.heap.size w w' := by
 obtain ⟨hs, e, pm, F, H, hT, rfl⟩ := h
 exact get_any w t e s.xs F a l (by simp [World.cell?, hT.blk]) hT.eng
theorem TT.look (h : TT w t s A) (a : Int) : Calls Tryz.prog 41 #[ptrV t, .int .i64 a] w fun r w' => r = .returned (.tuple #[rteV (lookR s.xs a).1.a (lookR s.xs a).1.l (lookR s.xs a).1.n, .int .i64 (lookR s.xs a).2]) /\ Below w.heap.size w w' := by
 obtain ⟨hs, e, pm, F, H, hT, rfl⟩ := h
 exact lookup_any w t e s.xs F a (by simp [World.cell?, hT.blk]) hT.eng
theorem TT.advise (h : TT w t s A) : Calls Tryz.prog 62 #[ptrV t] w fun r w' => r = .returned (.int .i64 (advR s.xs)) /\ Below w.heap.size w w' := by
 obtain ⟨hs, e, pm, F, H, hT, rfl⟩ := h
 exact advise_any w t e s.xs F (by simp [World.cell?, hT.blk]) hT.eng
theorem TT.state (h : TT w t s A) : Calls Tryz.prog 16 #[ptrV t] w fun r w' => r = .returned (staV s.k (knM s.mv) (phM s.mv) (cpM s.mv) s.ms s.bs) /\ Below w.heap.size w w' := by
 obtain ⟨hs, e, pm, F, H, hT, rfl⟩ := h
 exact tstate_any w t e s pm F H hT
theorem TT.cells (h : TT w t s A) : Calls Tryz.prog 20 #[ptrV t] w fun r w' => r = .returned (celV s.act (tgtM s.mv) (lgdM s.mv) s.b) /\ Below w.heap.size w w' := by
 obtain ⟨hs, e, pm, F, H, hT, rfl⟩ := h
 exact tcells_any w t e s pm F H hT
def pagE (a l n : Int) : Int := if isPfx a l = false then 2 else if n < 0 ∨ 32 < n then 11 else 0
def pagL (xs : List Ent) (a l n : Int) : List Ent := if pagE a l n = 0 then (fromE xs a l).take n.toNat else []
def PagP (w : World) (ys : List Ent) (e : Int) (r : Ending) (w' : World) : Prop := ∃ v, r = .returned (.tuple #[v, .int .i64 e]) /\ RowG 90 3 w' v ys.length (rteC ys) /\ Below w.heap.size w w' /\ ∀ g, v.ownBlock = some g -> w.heap.size <= g
theorem TT.page (h : TT w t s A) (a l n : Int) : Calls Tryz.prog 28 #[ptrV t, pfxV a l, .int .i64 n] w (PagP w (pagL s.xs a l n) (pagE a l n)) := by
 obtain ⟨hs, e, pm, F, H, hT, rfl⟩ := h
 by_cases h1 : isPfx a l = false
 ·have e1 : pagE a l n = 2 := by unfold pagE; rw [if_pos h1]
  have e2 : pagL s.xs a l n = [] := by unfold pagL; rw [e1]; rfl
  rw [e1, e2]
  exact (page_pfx w t a l n h1).mono fun r w' ⟨p1, p2⟩ => ⟨_, p1, RowG.nil _ _ _, p2, fun g hg => by cases hg⟩
 have hp : isPfx a l = true := by simpa using h1
 by_cases h2 : n < 0 ∨ 32 < n
 ·have e1 : pagE a l n = 11 := by unfold pagE; rw [if_neg h1, if_pos h2]
  have e2 : pagL s.xs a l n = [] := by unfold pagL; rw [e1]; rfl
  rw [e1, e2]
  exact (page_arg w t a l n hp h2).mono fun r w' ⟨p1, p2⟩ => ⟨_, p1, RowG.nil _ _ _, p2, fun g hg => by cases hg⟩
 ·have e1 : pagE a l n = 0 := by unfold pagE; rw [if_neg h1, if_neg h2]
  have e2 : pagL s.xs a l n = (fromE s.xs a l).take n.toNat := by unfold pagL; rw [if_pos e1]
  rw [e1, e2]
  have h3 := page_any w t e s.xs F a l n.toNat (by simp [World.cell?, hT.blk]) hT.eng hp (by omega)
  rw [show ((n.toNat : Nat) : Int) = n by omega] at h3
  exact h3
end
end Go.Proofs.YtglbamalagacgaaGreat

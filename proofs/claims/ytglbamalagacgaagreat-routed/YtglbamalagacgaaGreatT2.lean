import Derived.Test.YtglbamalagacgaaGreatT1
namespace Go.Proofs.YtglbamalagacgaaGreat
open Go.RowKit Go.Shelf
attribute [local go_sem] Oper.semAt_some
theorem Soft.blk {B : Nat} {A A' : World} (hs : Soft B A A') {k : Nat} (hk : k < A.heap.size) (h : k < B ∨ ∃ o, A.heap[k]? = some o /\ o.isCells = true) : A'.heap[k]? = A.heap[k]? := by
 have h1 : A.heap[k]? = some A.heap[k] := Array.getElem?_eq_some_iff.2 ⟨hk, rfl⟩
 rw [h1]
 refine hs.block k _ h1 (h.imp id ?_)
 rintro ⟨o, ho, hc⟩
 rw [h1] at ho
 cases ho
 exact hc
set_option maxHeartbeats 400000 in
theorem copy1_any (w : World) (t bt br : Nat) (e : Value) (s : TS) (m : Mv) (mb : Nat) (e2 : Value) (lb : Nat) (F F2 G : List Nat) (x : Ent) (h : Tab3 w t e s (ptrV mb) F (mb :: (F2 ++ G))) (hM : MovF w mb m e2 lb F2 G) (hx : okE x) (h0 : 0 <= m.cp) (h1 : m.cp <= 2304)
  (hbx : w.cell? ⟨bt, 0, none⟩ = some (ptrV t)) (hbt : bt ∉ mb :: (F2 ++ G)) (hr0 : w.cell? ⟨br, 0, none⟩ = some (.int .i64 x.a)) (hr1 : w.cell? ⟨br, 1, none⟩ = some (.int .i64 x.l)) (hr2 : w.cell? ⟨br, 2, none⟩ = some (.int .i64 x.n)) (hbr : br ∉ mb :: (F2 ++ G)) :
  Calls Tryz.prog 81 #[ptrV bt, ptrV br] w fun r w' => r = .returned (.tuple #[]) /\ ∃ F2', Tab3 w' t e (s.at (m.lay x)) (ptrV mb) F (mb :: (F2' ++ G)) /\ MovF w' mb (m.lay x) e2 lb F2' G /\ NewF w (mb :: (F2 ++ G)) (mb :: (F2' ++ G)) /\ NewF w F2 F2' /\ Only (mb :: F2) w w' := by
 have tl := h.lt
 have ml := hM.lt
 have bl := World.block_lt_of_cell? w _ hbx
 have rl := World.block_lt_of_cell? w _ hr0
 simp only at bl rl
 have t4 : w.cell? ⟨t, 4, none⟩ = some (ptrV mb) := by simp [World.cell?, h.blk]
 have sub : ∀ k, k ∉ mb :: (F2 ++ G) -> k ∉ mb :: F2 := fun k hn hk => hn (by simp only [List.mem_cons, List.mem_append] at hk ⊢; rcases hk with h | h; exact .inl h; exact .inr (.inl h))
 have nt := sub t h.nh
 have nb := sub bt hbt
 have nr := sub br hbr
 have hly := hide (mvLay_any w.drew mb m e2 lb F2 G x (hM.later ((Below.refl _ w).drew)) hx h0 h1)
 have fin := hide (show ∀ w', (∃ F', MovF w' mb (m.lay x) e2 lb F' G /\ NewF w.drew F2 F') -> Only (mb :: F2) w.drew w' -> ∃ F2', Tab3 w' t e (s.at (m.lay x)) (ptrV mb) F (mb :: (F2' ++ G)) /\ MovF w' mb (m.lay x) e2 lb F2' G /\ NewF w (mb :: (F2 ++ G)) (mb :: (F2' ++ G)) /\ NewF w F2 F2' /\ Only (mb :: F2) w w' from by
  rintro w' ⟨F', q1, q2⟩ hO
  have hO' : Only (mb :: F2) w w' := ⟨hO.os, hO.tape, hO.output, hO.size, fun k hk hn => hO.block k hk hn⟩
  have hOb : Only (mb :: (F2 ++ G)) w w' := ⟨hO.os, hO.tape, hO.output, hO.size, fun k hk hn => hO.block k hk (sub k hn)⟩
  have hN : NewF w (mb :: (F2 ++ G)) (mb :: (F' ++ G)) := fun k hk => by
   simp only [List.mem_cons, List.mem_append] at hk ⊢
   rcases hk with rfl | hk | hk
   ·exact .inl (.inl rfl)
   ·exact (q2 k hk).imp (fun h => .inr (.inl h)) (fun h => by simpa using h)
   ·exact .inl (.inr (.inr hk))
  exact ⟨F', h.turn q1 hN hOb, q1, hN, fun k hk => (q2 k hk).imp id (fun h => by simpa using h), hO'⟩)
 obtain ⟨xa, xl, xn⟩ := x
 simp only at hr0 hr1 hr2
 clear h hM
 go_enter Tryz.func81, Tryz.ntmps81
 go_wp2
 go_region_held3 (fun w' => w'.cell? ⟨bt, 0, none⟩ = some (ptrV t) /\ w'.cell? ⟨t, 4, none⟩ = some (ptrV mb) /\ w'.cell? ⟨br, 0, none⟩ = some (.int .i64 xa) /\ w'.cell? ⟨br, 1, none⟩ = some (.int .i64 xl) /\ w'.cell? ⟨br, 2, none⟩ = some (.int .i64 xn)) (go_keep)
  ((go_at_call 82; refine hly.out.mono ?_; rintro _ w2 ⟨hF, hO, rfl⟩; (have hc1 : ∀ o, w2.cell? ⟨t, o, none⟩ = w.cell? ⟨t, o, none⟩ := fun o => hO.cell tl nt); (have hc2 : ∀ o, w2.cell? ⟨bt, o, none⟩ = w.cell? ⟨bt, o, none⟩ := fun o => hO.cell bl nb); (have hc3 : ∀ o, w2.cell? ⟨br, o, none⟩ = w.cell? ⟨br, o, none⟩ := fun o => hO.cell rl nr)))
 have Fin := hide (fin.out w2 hF hO)
 clear hF hO hc1 hc2 hc3 fin hly
 go_wp2
 go_end0
 exact ⟨rfl, Fin.out⟩
end Go.Proofs.YtglbamalagacgaaGreat

namespace Go.Proofs.YtglbamalagacgaaGreat
open Go.RowKit Go.Shelf
attribute [local go_sem] Oper.semAt_some
structure CpB (w w2 W : World) (t : Nat) (e : Value) (s : TS) (mb : Nat) (e2 : Value) (lb : Nat) (F F2 G : List Nat) (n : Nat) (mi : Mv) (F2' : List Nat) : Prop where
 tab : Tab3 W t e (s.at mi) (ptrV mb) F (mb :: (F2' ++ G))
 mov : MovF W mb mi e2 lb F2' G
 new : NewF w2 F2 F2'
 only : Only ((w.heap.size + 1) :: (w.heap.size + 2) :: mb :: F2) w2 W
 box : W.heap[w.heap.size]? = some (.cells #[ptrV t] 40 (0, 0))
 res : W.heap[w.heap.size + 1]? = some (.cells #[.int .i64 0] 3 (0, 0))
 ld : W.heap[w.heap.size + 2]? = some (.cells #[.int .i64 (n : Int)] 3 (0, 0))
structure CpN (s : TS) (m : Mv) (n : Nat) (mi : Mv) : Prop where
 c0 : 0 <= mi.cp
 c1 : mi.cp <= 9 * mi.ca + mi.cl + 1
 cur : isPfx mi.ca mi.cl = true
 lg : mi.lg = m.lg
 nle : (n : Int) <= s.ch
def cpI (w w2 : World) (t : Nat) (e : Value) (s : TS) (m : Mv) (mb : Nat) (e2 : Value) (lb : Nat) (F F2 G : List Nat) (pre : List { x : Ent // x ∈ s.xs }) (W : World) : Prop :=
 ∃ n mi F2', CpB w w2 W t e s mb e2 lb F F2 G n mi F2' /\ CpN s m n mi /\ ∀ rest, cpRun s (pre.map (·.1) ++ rest) 0 m = cpRun s rest n mi
def cpX (w w2 : World) (t : Nat) (e : Value) (s : TS) (m : Mv) (mb : Nat) (e2 : Value) (lb : Nat) (F F2 G : List Nat) (c : Code) (pre : List { x : Ent // x ∈ s.xs }) (W : World) : Prop :=
 (c = .exit 0 /\ ∃ n mi F2', CpB w w2 W t e s mb e2 lb F F2 G n mi F2' /\ (n : Int) = s.ch /\ ∀ rest, cpRun s (pre.map (·.1) ++ rest) 0 m = (1, s.at mi)) ∨
 (c = .ret /\ Tab3 W t e s.back (.pointer none) F [] /\ Only (t :: (w.heap.size + 1) :: (w.heap.size + 2) :: mb :: F2) w2 W /\ W.heap[w.heap.size + 1]? = some (.cells #[.int .i64 4] 3 (0, 0)) /\ ∀ rest, cpRun s (pre.map (·.1) ++ rest) 0 m = (4, s.back))
def cpO (w : World) (t mb : Nat) (e2 : Value) (W : World) (k : Nat) : Prop := k = t ∨ k = w.heap.size + 1 ∨ k = w.heap.size + 2 ∨ k = mb ∨ ∃ ys F2, EngF W e2 ys F2 /\ k ∈ F2
structure CpE (w w2 : World) (t mb : Nat) (F F2 G : List Nat) : Prop where
 sz : w.heap.size + 3 <= w2.heap.size
 tl : t < w.heap.size
 ml : mb < w.heap.size
 Fl : ∀ k ∈ F, k < w.heap.size
 F2l : ∀ k ∈ F2, k < w.heap.size
 Gl : ∀ k ∈ G, k < w.heap.size
theorem soft_only {L : List Nat} {w2 A B : World} (h : Only L w2 A) (hs : Soft w2.heap.size A B) : Only L w2 B :=
 ⟨hs.os.trans h.os, hs.tape.trans h.tape, hs.output.trans h.output, Nat.le_trans h.size hs.size, fun k hk hn => by
  have hA := h.block k hk hn
  have hw : w2.heap[k]? = some w2.heap[k] := Array.getElem?_eq_some_iff.2 ⟨hk, rfl⟩
  rw [hw] at hA ⊢
  exact hs.block k _ hA (.inl hk)⟩
theorem CpB.soft {w w2 A B : World} {t : Nat} {e : Value} {s : TS} {mb : Nat} {e2 : Value} {lb : Nat} {F F2 G : List Nat} {n : Nat} {mi : Mv} {F2' : List Nat} (h : CpB w w2 A t e s mb e2 lb F F2 G n mi F2') (hE : CpE w w2 t mb F F2 G) (hs : Soft w2.heap.size A B) : CpB w w2 B t e s mb e2 lb F F2 G n mi F2' := by
 have hsz := hE.sz
 have hA := h.only.size
 have k2 : ∀ k ∈ F2', B.heap[k]? = A.heap[k]? := fun k hk => hs.blk (h.mov.eng.lt k hk) (.inr (h.mov.eng.cells k hk))
 have kG : ∀ k ∈ G, B.heap[k]? = A.heap[k]? := fun k hk => hs.blk (h.mov.log.lt k hk) (.inl (by have := hE.Gl k hk; omega))
 have km : B.heap[mb]? = A.heap[mb]? := hs.blk h.mov.lt (.inl (by have := hE.ml; omega))
 refine ⟨h.tab.kept (hs.blk h.tab.lt (.inl (by have := hE.tl; omega))) (fun k hk => hs.blk (h.tab.eng.lt k hk) (.inl (by have := hE.Fl k hk; omega))) (fun k hk => ?_), h.mov.kept km k2 kG, h.new, soft_only h.only hs, hs.block _ _ h.box (.inr rfl), hs.block _ _ h.res (.inr rfl), hs.block _ _ h.ld (.inr rfl)⟩
 simp only [List.mem_cons, List.mem_append] at hk
 rcases hk with rfl | hk | hk
 ·exact km
 ·exact k2 k hk
 ·exact kG k hk
theorem CpB.own {w w2 A : World} {t : Nat} {e : Value} {s : TS} {mb : Nat} {e2 : Value} {lb : Nat} {F F2 G : List Nat} {n : Nat} {mi : Mv} {F2' : List Nat} (h : CpB w w2 A t e s mb e2 lb F F2 G n mi F2') (k : Nat) : cpO w t mb e2 A k ↔ k = t ∨ k = w.heap.size + 1 ∨ k = w.heap.size + 2 ∨ k = mb ∨ k ∈ F2' := by
 unfold cpO
 constructor
 ·rintro (h1 | h1 | h1 | h1 | ⟨ys, F3, h1, h2⟩)
  ·exact .inl h1
  ·exact .inr (.inl h1)
  ·exact .inr (.inr (.inl h1))
  ·exact .inr (.inr (.inr (.inl h1)))
  ·exact .inr (.inr (.inr (.inr (h1.uniq h.mov.eng k h2))))
 ·rintro (h1 | h1 | h1 | h1 | h1)
  ·exact .inl h1
  ·exact .inr (.inl h1)
  ·exact .inr (.inr (.inl h1))
  ·exact .inr (.inr (.inr (.inl h1)))
  ·exact .inr (.inr (.inr (.inr ⟨_, _, h.mov.eng, h1⟩)))
theorem cpI_soft {w w2 : World} {t : Nat} {e : Value} {s : TS} {m : Mv} {mb : Nat} {e2 : Value} {lb : Nat} {F F2 G : List Nat} (hE : CpE w w2 t mb F F2 G) {pre : List { x : Ent // x ∈ s.xs }} {A B : World} (h : cpI w w2 t e s m mb e2 lb F F2 G pre A) (hs : Soft w2.heap.size A B) :
  cpI w w2 t e s m mb e2 lb F F2 G pre B /\ ∀ k, cpO w t mb e2 B k -> cpO w t mb e2 A k := by
 obtain ⟨n, mi, F2', h1, h2, h3⟩ := h
 exact ⟨⟨n, mi, F2', h1.soft hE hs, h2, h3⟩, fun k hk => (h1.own k).2 (((h1.soft hE hs).own k).1 hk)⟩
theorem cpX_soft {w w2 : World} {t : Nat} {e : Value} {s : TS} {m : Mv} {mb : Nat} {e2 : Value} {lb : Nat} {F F2 G : List Nat} (hE : CpE w w2 t mb F F2 G) {c : Code} {pre : List { x : Ent // x ∈ s.xs }} {A B : World} (h : cpX w w2 t e s m mb e2 lb F F2 G c pre A) (hs : Soft w2.heap.size A B) : cpX w w2 t e s m mb e2 lb F F2 G c pre B := by
 have hsz := hE.sz
 rcases h with ⟨h0, n, mi, F2', h1, h2, h3⟩ | ⟨h0, h1, h2, h3, h4⟩
 ·exact .inl ⟨h0, n, mi, F2', h1.soft hE hs, h2, h3⟩
 ·exact .inr ⟨h0, h1.kept (hs.blk h1.lt (.inl (by have := hE.tl; omega))) (fun k hk => hs.blk (h1.eng.lt k hk) (.inl (by have := hE.Fl k hk; omega))) (by simp), soft_only h2 hs, hs.block _ _ h3 (.inr rfl), h4⟩
theorem CpB.lays {w w2 A W w1 w7 : World} {t : Nat} {e : Value} {s : TS} {mb : Nat} {e2 : Value} {lb : Nat} {F F2 G : List Nat} {n : Nat} {mi mi' : Mv} {F2' F2'' : List Nat} (h : CpB w w2 A t e s mb e2 lb F F2 G n mi F2') (hE : CpE w w2 t mb F F2 G) (hB : Below A.heap.size A W)
  (h1 : Tab3 w1 t e (s.at mi') (ptrV mb) F (mb :: (F2'' ++ G))) (h2 : MovF w1 mb mi' e2 lb F2'' G) (h3 : NewF W F2' F2'') (h4 : Only (mb :: F2') W w1) (h5 : Below w1.heap.size w1 w7) :
  CpB w w2 w7 t e s mb e2 lb F F2 G n mi' F2'' /\ Firm w2.heap.size A w7 /\ KOwn (cpO w t mb e2) A w7 := by
 have z1 := h.only.size
 have z2 := hB.size
 have z3 := h4.size
 have z4 := h5.size
 have zE := hE.sz
 have keep : ∀ k, k < A.heap.size -> k ≠ mb -> k ∉ F2' -> w7.heap[k]? = A.heap[k]? := fun k hk hn1 hn2 => ((h5.block k (by omega)).trans (h4.block k (by omega) (by simp only [List.mem_cons]; rintro (h6 | h6); exact hn1 h6; exact hn2 h6))).trans (hB.block k hk)
 have out : ∀ k, k < w2.heap.size -> k ∉ F2 -> k ∉ F2' := fun k hk hn hk' => (h.new k hk').elim hn (fun h6 => by omega)
 have bx : ∀ k, w.heap.size <= k -> k < w2.heap.size -> w7.heap[k]? = A.heap[k]? := fun k hk1 hk2 => keep k (by omega) (by have := hE.ml; omega) (out k hk2 (fun h6 => by have := hE.F2l k h6; omega))
 have hnew : NewF w2 F2 F2'' := fun k hk => by
  rcases h3 k hk with h6 | h6
  ·exact h.new k h6
  ·exact .inr (by omega)
 have hC : CpB w w2 w7 t e s mb e2 lb F F2 G n mi' F2'' := by
  refine ⟨h1.later h5, h2.later h5, hnew, ⟨?_, ?_, ?_, by omega, fun k hk hn => ?_⟩, (bx _ (by omega) (by omega)).trans h.box, (bx _ (by omega) (by omega)).trans h.res, (bx _ (by omega) (by omega)).trans h.ld⟩
  ·exact ((h5.os.trans h4.os).trans hB.os).trans h.only.os
  ·exact ((h5.tape.trans h4.tape).trans hB.tape).trans h.only.tape
  ·exact ((h5.output.trans h4.output).trans hB.output).trans h.only.output
  ·simp only [List.mem_cons, not_or] at hn
   exact (keep k (by omega) hn.2.2.1 (out k hk hn.2.2.2)).trans (h.only.block k hk (by simp only [List.mem_cons, not_or]; exact hn))
 refine ⟨hC, fun k o hk ho hc => ?_, by omega, fun k o hk ho hn => ?_⟩
 ·have hkl := (Array.getElem?_eq_some_iff.1 ho).1
  refine (keep k hkl (by have := hE.ml; omega) (fun h6 => ?_)).trans ho
  obtain ⟨o', ho', hc'⟩ := h.mov.eng.cells k h6
  rw [ho] at ho'
  cases ho'
  rw [hc] at hc'
  cases hc'
 ·have hkl := (Array.getElem?_eq_some_iff.1 hk).1
  have hn' : ¬ (k = t ∨ k = w.heap.size + 1 ∨ k = w.heap.size + 2 ∨ k = mb ∨ k ∈ F2') := fun h6 => hn ((h.own k).2 h6)
  simp only [not_or] at hn'
  refine ⟨(keep k hkl hn'.2.2.2.1 hn'.2.2.2.2).trans hk, fun h6 => ?_⟩
  rcases (hC.own k).1 h6 with h7 | h7 | h7 | h7 | h7
  ·exact hn'.1 h7
  ·exact hn'.2.1 h7
  ·exact hn'.2.2.1 h7
  ·exact hn'.2.2.2.1 h7
  ·rcases h3 k h7 with h8 | h8
   ·exact hn'.2.2.2.2 h8
   ·omega
theorem CpB.inc {w w2 A : World} {t : Nat} {e : Value} {s : TS} {mb : Nat} {e2 : Value} {lb : Nat} {F F2 G : List Nat} {n : Nat} {mi : Mv} {F2' : List Nat} (h : CpB w w2 A t e s mb e2 lb F F2 G n mi F2') (hE : CpE w w2 t mb F F2 G) :
  CpB w w2 (A.setCell ⟨w.heap.size + 2, 0, none⟩ (.int .i64 ((n : Int) + 1))) t e s mb e2 lb F F2 G (n + 1) mi F2' /\ Firm w2.heap.size A (A.setCell ⟨w.heap.size + 2, 0, none⟩ (.int .i64 ((n : Int) + 1))) /\ KOwn (cpO w t mb e2) A (A.setCell ⟨w.heap.size + 2, 0, none⟩ (.int .i64 ((n : Int) + 1))) := by
 obtain ⟨a1, a2, a3⟩ := setT h.ld 0 (.int .i64 ((n : Int) + 1))
 have z1 := h.only.size
 have zE := hE.sz
 have n2 : ∀ k ∈ F2', k ≠ w.heap.size + 2 := fun k hk e => by
  rcases h.new k hk with h6 | h6
  ·have := hE.F2l k h6; omega
  ·omega
 have nG : ∀ k ∈ G, k ≠ w.heap.size + 2 := fun k hk e => by have := hE.Gl k hk; omega
 have hC : CpB w w2 (A.setCell ⟨w.heap.size + 2, 0, none⟩ (.int .i64 ((n : Int) + 1))) t e s mb e2 lb F F2 G (n + 1) mi F2' := by
  refine ⟨h.tab.kept (a2 _ (by have := hE.tl; omega)) (fun k hk => a2 k (by have := hE.Fl k hk; omega)) (fun k hk => a2 k ?_), h.mov.kept (a2 _ (by have := hE.ml; omega)) (fun k hk => a2 k (n2 k hk)) (fun k hk => a2 k (nG k hk)), h.new, ⟨h.only.os, h.only.tape, h.only.output, by omega, fun k hk hn => (a2 k (fun e => hn (by simp [e]))).trans (h.only.block k hk hn)⟩, (a2 _ (by omega)).trans h.box, (a2 _ (by omega)).trans h.res, by rw [a1]; simp⟩
  simp only [List.mem_cons, List.mem_append] at hk
  rcases hk with rfl | hk | hk
  ·have := hE.ml; omega
  ·exact n2 k hk
  ·exact nG k hk
 refine ⟨hC, Firm.setCell _ _ _, by omega, fun k o hk ho hn => ?_⟩
 have hn' : ¬ (k = t ∨ k = w.heap.size + 1 ∨ k = w.heap.size + 2 ∨ k = mb ∨ k ∈ F2') := fun h6 => hn ((h.own k).2 h6)
 simp only [not_or] at hn'
 exact ⟨(a2 k hn'.2.2.1).trans hk, fun h6 => by
  rcases (hC.own k).1 h6 with h7 | h7 | h7 | h7 | h7
  ·exact hn'.1 h7
  ·exact hn'.2.1 h7
  ·exact hn'.2.2.1 h7
  ·exact hn'.2.2.2.1 h7
  ·exact hn'.2.2.2.2 h7⟩
theorem cp_fin {w w2 A W' : World} {t : Nat} {e : Value} {s : TS} {mb : Nat} {e2 : Value} {lb : Nat} {F F2 G : List Nat} {n : Nat} {mi : Mv} {F2' : List Nat} (h : CpB w w2 A t e s mb e2 lb F F2 G n mi F2') (hE : CpE w w2 t mb F F2 G) (hB : Below w.heap.size w w2) (ph c : Int)
  (hm : W'.heap[mb]? = some (.cells #[e2, .int .i64 ph, .int .i64 mi.cp, .int .i64 mi.ca, .int .i64 mi.cl, ptrV lb] 101 (0, 0)))
  (hk : ∀ k, k ≠ mb -> k ≠ w.heap.size + 1 -> (k < w2.heap.size ∨ ∃ o, A.heap[k]? = some o /\ o.isCells = true) -> k < A.heap.size -> W'.heap[k]? = A.heap[k]?) (ho : W'.os = A.os /\ W'.tape = A.tape /\ W'.output = A.output) (hz : A.heap.size <= W'.heap.size) :
  StPost w t F (mb :: (F2 ++ G)) c (s.at { mi with ph := ph }) (.returned (.int .i64 c)) W' := by
 have zE := hE.sz
 have z1 := h.only.size
 have k2 : ∀ k ∈ F2', W'.heap[k]? = A.heap[k]? := fun k hk' => hk k (fun e => h.mov.n2 (e ▸ hk')) (fun e => by
  rcases h.new k hk' with h6 | h6
  ·have := hE.F2l k h6; omega
  ·omega) (.inr (h.mov.eng.cells k hk')) (h.mov.eng.lt k hk')
 have kG : ∀ k ∈ G, W'.heap[k]? = A.heap[k]? := fun k hk' => hk k (fun e => h.mov.nG (e ▸ hk')) (by have := hE.Gl k hk'; omega) (.inl (by have := hE.Gl k hk'; omega)) (h.mov.log.lt k hk')
 have hM : MovF W' mb { mi with ph := ph } e2 lb F2' G := ⟨hm, h.mov.eng.kept k2, h.mov.kind, h.mov.log.kept kG, h.mov.n2, h.mov.nG, h.mov.dj⟩
 have tne : t ≠ mb := fun e => h.tab.nh (by simp [e])
 refine ⟨e, ptrV mb, F, mb :: (F2' ++ G), rfl, ⟨(hk t tne (by have := hE.tl; omega) (.inl (by have := hE.tl; omega)) h.tab.lt).trans h.tab.blk, h.tab.eng.kept fun k hk' => hk k (fun e => h.tab.dj k hk' (by simp [e])) (by have := hE.Fl k hk'; omega) (.inl (by have := hE.Fl k hk'; omega)) (h.tab.eng.lt k hk'), h.tab.kind, ⟨mb, e2, lb, F2', G, rfl, hM, rfl⟩, h.tab.nt, h.tab.nh, h.tab.dj⟩, fun k hk' => ?_, ?_⟩
 ·simp only [List.mem_cons, List.mem_append] at hk' ⊢
  rcases hk' with h6 | h6 | h6 | h6 | h6
  ·exact .inl (.inl h6)
  ·exact .inl (.inr (.inl h6))
  ·exact .inl (.inr (.inr (.inl h6)))
  ·rcases h.new k h6 with h7 | h7
   ·exact .inl (.inr (.inr (.inr (.inl h7))))
   ·exact .inr (by omega)
  ·exact .inl (.inr (.inr (.inr (.inr h6))))
 ·refine ⟨(ho.1.trans h.only.os).trans hB.os, (ho.2.1.trans h.only.tape).trans hB.tape, (ho.2.2.trans h.only.output).trans hB.output, by omega, fun k hk1 hn => ?_⟩
  simp only [List.mem_cons, List.mem_append, not_or] at hn
  exact ((hk k hn.2.2.1 (by omega) (.inl (by omega)) (by omega)).trans (h.only.block k (by omega) (by simp only [List.mem_cons, not_or]; exact ⟨by omega, by omega, hn.2.2.1, hn.2.2.2.1⟩))).trans (hB.block k hk1)
end Go.Proofs.YtglbamalagacgaaGreat

namespace Go.Proofs.YtglbamalagacgaaGreat
open Go.RowKit Go.Shelf
attribute [local go_sem] Oper.semAt_some
set_option maxRecDepth 4000 in
set_option maxHeartbeats 4000000 in
theorem copyChunk_any (w : World) (t : Nat) (e : Value) (s : TS) (m : Mv) (pm : Value) (F H : List Nat) (h : Tab3 w t e s pm F H) (hs : s.Ok) (hm : s.mv = some m) :
  Calls Tryz.prog 46 #[ptrV t] w (StPost w t F H (cpRun s (fromE s.xs m.ca m.cl) 0 m).1 (cpRun s (fromE s.xs m.ca m.cl) 0 m).2) := by
 have hmv := h.mv
 rw [hm] at hmv
 obtain ⟨mb, e2, lb, F2, G, rfl, hM, rfl⟩ := hmv
 obtain ⟨hmo, hml⟩ := hs.mv m hm
 have hl16 := hs.l16
 have hch1 := hs.ch1
 have hch8 := hs.ch8
 have tl := h.lt
 have ml := hM.lt
 obtain ⟨T, p, ff, D⟩ := h.eng.dispI
 have eq := D.eq
 have mf := D.mf.m
 have nf := D.mf.n
 have cf := D.mf.c
 have t0 : w.cell? ⟨t, 0, none⟩ = some e := by simp [World.cell?, h.blk]
 have t4 : w.cell? ⟨t, 4, none⟩ = some (ptrV mb) := by simp [World.cell?, h.blk]
 have p3 : w.cell? ⟨mb, 3, none⟩ = some (.int .i64 m.ca) := by simp [World.cell?, hM.blk]
 have p4 : w.cell? ⟨mb, 4, none⟩ = some (.int .i64 m.cl) := by simp [World.cell?, hM.blk]
 obtain ⟨w1, hw1⟩ : ∃ w1, w1 = ((w.alloc (Obj.cells #[ptrV t] 40)).alloc (Obj.cells #[.int .i64 0] 3)).alloc (Obj.cells #[.int .i64 0] 3) := ⟨_, rfl⟩
 have hB1 : Below w.heap.size w w1 := by rw [hw1]; exact (by repeat (first | exact Below.refl _ _ | refine below_drewN ?_ _ | refine Below.drew ?_ | refine Below.trans ?_ (Below.mono (by assumption) ?_) | refine Below.alloc ?_ ?_ _ | refine Below.setCell ?_ ?_ _ | omega | (simp; omega) | simp))
 have hz1 : w1.heap.size = w.heap.size + 3 := by rw [hw1]; simp
 have hfr := hide (show ∀ W, Below w.heap.size w W -> Calls Tryz.prog ff #[ptrV p, pfxV m.ca m.cl] W (FromP s.xs F m.ca m.cl W) from fun W hW => D.frm W s.xs F m.ca m.cl (h.eng.later hW))
 have o0 : w1.heap[w.heap.size]? = some (.cells #[ptrV t] 40 (0, 0)) := by
  rw [hw1]; exact ((Below.heap_alloc _ _ _ (by simp; omega)).trans (Below.heap_alloc _ _ _ (by simp))).trans (World.alloc_heap_new w _)
 have o1 : w1.heap[w.heap.size + 1]? = some (.cells #[.int .i64 0] 3 (0, 0)) := by
  rw [hw1]
  refine (Below.heap_alloc _ _ _ (by simp)).trans ?_
  have := World.alloc_heap_new (w.alloc (Obj.cells #[ptrV t] 40)) (Obj.cells #[.int .i64 0] 3)
  rwa [World.size_alloc] at this
 have o2 : w1.heap[w.heap.size + 2]? = some (.cells #[.int .i64 0] 3 (0, 0)) := by
  rw [hw1]
  have := World.alloc_heap_new ((w.alloc (Obj.cells #[ptrV t] 40)).alloc (Obj.cells #[.int .i64 0] 3)) (Obj.cells #[.int .i64 0] 3)
  rwa [World.size_alloc, World.size_alloc] at this
 have HI := hide (show ∀ w2, Below w1.heap.size w1 w2 -> CpE w w2 t mb F F2 G /\ cpI w w2 t e s m mb e2 lb F F2 G [] w2 from fun w2 hB2 => by
  have hB : Below w.heap.size w w2 := hB1.trans (hB2.mono (by omega))
  have hz2 := hB2.size
  refine ⟨⟨by omega, tl, ml, h.eng.lt, hM.eng.lt, hM.log.lt⟩, 0, m, F2, ⟨by rw [TS.at_same hm]; exact h.later hB, hM.later hB, NewF.refl _ _, Only.refl _ _, (hB2.block _ (by omega)).trans o0, (hB2.block _ (by omega)).trans o1, (hB2.block _ (by omega)).trans o2⟩, ⟨hmo.cp0, hmo.cp1, hmo.cur, rfl, by omega⟩, fun rest => rfl⟩)
 have HS := hide hs
 have HT := hide h
 have k0 : w1.cell? ⟨w.heap.size, 0, none⟩ = some (ptrV t) := by simp [World.cell?, o0]
 have tl1 : t < w1.heap.size := by omega
 have ml1 : mb < w1.heap.size := by omega
 have bl1 : w.heap.size < w1.heap.size := by omega
 have HW := hide hw1
 have hO1 := hide (And.intro o0 (And.intro o1 o2))
 have HZ := hide hz1
 clear D h hM hmo o0 o1 o2 hw1 hz1
 subst eq
 refine (callsIn_wide (n := 5)).1 ?_
 refine callsIn_of_wp_marks Tryz.func46 rfl trivial ?_ rfl
 refine wpIn_wide.2 ?_
 simp only [Tryz.ntmps46, List.size_toArray, List.length_cons, List.length_nil, Nat.reduceAdd, Nat.reduceSub, Array.replicate_succ, Array.replicate_zero, List.push_toArray, List.append_toArray, List.nil_append, List.cons_append]
 go_wp2
 rw [<- HW.out]
 have x0 : w1.cell? ⟨t, 0, none⟩ = some (.iface T (ptrV p)) := (hB1.cell (p := ⟨t, 0, none⟩) tl).trans t0
 have x4 : w1.cell? ⟨t, 4, none⟩ = some (ptrV mb) := (hB1.cell (p := ⟨t, 4, none⟩) tl).trans t4
 have y3 : w1.cell? ⟨mb, 3, none⟩ = some (.int .i64 m.ca) := (hB1.cell (p := ⟨mb, 3, none⟩) ml).trans p3
 have y4 : w1.cell? ⟨mb, 4, none⟩ = some (.int .i64 m.cl) := (hB1.cell (p := ⟨mb, 4, none⟩) ml).trans p4
 have hfr1 := hide (hfr.out w1.drew hB1.drew)
 go_region_held3 (fun w' => w'.cell? ⟨w.heap.size, 0, none⟩ = some (ptrV t) /\ w'.cell? ⟨t, 0, none⟩ = some (.iface T (ptrV p)) /\ w'.cell? ⟨t, 4, none⟩ = some (ptrV mb) /\ w'.cell? ⟨mb, 3, none⟩ = some (.int .i64 m.ca) /\ w'.cell? ⟨mb, 4, none⟩ = some (.int .i64 m.cl)) (go_keep)
  ((refine hfr1.out.mono ?_; rintro _ w2 ⟨g, lb', rfl, hB2, eg, hseq⟩; (have hc1 : ∀ o, w2.cell? ⟨t, o, none⟩ = w1.cell? ⟨t, o, none⟩ := fun o => hB2.cell (p := ⟨t, o, none⟩) tl1); (have hc2 : ∀ o, w2.cell? ⟨mb, o, none⟩ = w1.cell? ⟨mb, o, none⟩ := fun o => hB2.cell (p := ⟨mb, o, none⟩) ml1); (have hc3 : ∀ o, w2.cell? ⟨w.heap.size, o, none⟩ = w1.cell? ⟨w.heap.size, o, none⟩ := fun o => hB2.cell (p := ⟨w.heap.size, o, none⟩) bl1)))
 have hB2' : Below w1.heap.size w1 w2 := (Below.refl _ w1).drew.trans (hB2.mono (by simp))
 obtain ⟨hE, hI0⟩ := HI.out w2 hB2'
 have hseq1 := hseq (fun x => x ∈ s.xs) (fun x hx => hx)
 have HB2 := hide hB2'
 clear hc1 hc2 hc3 hB2 hfr hfr1 HI hseq
 go_wp2
 refine wpIn_wide.1 (range_law (α := { x : Ent // x ∈ s.xs }) (gf := g) (lb := lb') rfl eg hseq1 (Below.refl _ _) (fun _ => rfl)
  (cpO w t mb e2) (cpI w w2 t (.iface T (ptrV p)) s m mb e2 lb F F2 G) (cpX w w2 t (.iface T (ptrV p)) s m mb e2 lb F F2 G)
  ?hF ?hOl (fun s A B h hs => cpI_soft hE h hs) (fun c s A B h hs => cpX_soft hE h hs) hI0 ?hround ?hdone ?hstop)
 case hF =>
  intro k hk ho
  obtain ⟨n, mi, F2', h1, _⟩ := hI0
  have hkl := hE.Fl k hk
  rcases (h1.own k).1 ho with rfl | rfl | rfl | rfl | h3
  ·exact HT.out.nt hk
  ·omega
  ·omega
  ·exact h1.tab.dj k hk (by simp)
  ·exact h1.tab.dj k hk (by simp [h3])
 case hOl =>
  rintro s' A ⟨n, mi, F2', h1, _⟩ k ho
  have hsz := h1.only.size
  have := hE.sz
  rcases (h1.own k).1 ho with rfl | rfl | rfl | rfl | h3
  ·exact h1.tab.lt
  ·omega
  ·omega
  ·exact h1.mov.lt
  ·exact h1.mov.eng.lt k h3
 case hround =>
  rintro l' pre x W3 hl1 hl2 hI hlen
  have hBq : Below W3.heap.size W3 (W3.alloc (Obj.cells #[.int .i64 x.1.a, .int .i64 x.1.l, .int .i64 x.1.n] 90)) := (Below.refl _ W3).alloc (Nat.le_refl _) _
  gi_wp2
  refine ⟨Soft.of_below hBq, Firm.of_below hBq, ?_⟩
  intro W4 hs4
  obtain ⟨n, mi, F2', hb3, hn, hrun⟩ := hI
  have hb := hb3.soft hE ((Soft.of_below hBq).trans hs4)
  have q0 : W4.heap[W3.heap.size]? = some (.cells #[.int .i64 x.1.a, .int .i64 x.1.l, .int .i64 x.1.n] 90 (0, 0)) := hs4.block _ _ (World.alloc_heap_new W3 _) (.inr rfl)
  have hbr : W3.heap.size ∉ mb :: (F2' ++ G) := fun hk => by have := hb3.tab.mv.lt _ hk; omega
  have hsz3 := hb3.only.size
  have hsE := hE.sz
  obtain ⟨⟨xa, xl, xn⟩, hx⟩ := x
  simp only at q0
  have r0 : W4.cell? ⟨W3.heap.size, 0, none⟩ = some (.int .i64 xa) := by simp [World.cell?, q0]
  have r1 : W4.cell? ⟨W3.heap.size, 1, none⟩ = some (.int .i64 xl) := by simp [World.cell?, q0]
  have r2 : W4.cell? ⟨W3.heap.size, 2, none⟩ = some (.int .i64 xn) := by simp [World.cell?, q0]
  have k0 : W4.cell? ⟨w.heap.size, 0, none⟩ = some (ptrV t) := by simp [World.cell?, hb.box]
  have k2 : W4.cell? ⟨t, 2, none⟩ = some (.int .i64 s.ch) := by simp [World.cell?, hb.tab.blk]
  have k4 : W4.cell? ⟨t, 4, none⟩ = some (ptrV mb) := by simp [World.cell?, hb.tab.blk]
  have kl : W4.cell? ⟨w.heap.size + 2, 0, none⟩ = some (.int .i64 (n : Int)) := by simp [World.cell?, hb.ld]
  have m2 : W4.cell? ⟨mb, 2, none⟩ = some (.int .i64 mi.cp) := by simp [World.cell?, hb.mov.blk]
  have m3 : W4.cell? ⟨mb, 3, none⟩ = some (.int .i64 mi.ca) := by simp [World.cell?, hb.mov.blk]
  have m4 : W4.cell? ⟨mb, 4, none⟩ = some (.int .i64 mi.cl) := by simp [World.cell?, hb.mov.blk]
  have z0 := (Array.getElem?_eq_some_iff.1 q0).1
  have zt := hb.tab.lt
  have zm := hb.mov.lt
  have zb := (Array.getElem?_eq_some_iff.1 hb.box).1
  have zl := (Array.getElem?_eq_some_iff.1 hb.ld).1
  have hps := hide (show ∀ W, Below W4.heap.size W4 W -> Calls Tryz.prog 78 #[ptrV mb, pfxV xa xl] W fun r w' => r = .returned (.bool (decide (mi.past xa xl))) /\ Below W.heap.size W w' from fun W hW => isPassed_any W mb mi xa xl ((hW.cell (p := ⟨mb, 2, none⟩) zm).trans m2) ((hW.cell (p := ⟨mb, 3, none⟩) zm).trans m3) ((hW.cell (p := ⟨mb, 4, none⟩) zm).trans m4))
  have hmx : Tryz.prog.follows .mixedOrders = true := by kernel_rfl
  have Hb := hide hb
  have Hn := hide hn
  have Hrun := hide hrun
  generalize hpv : decide (mi.past xa xl) = pv at *
  clear hs4 hBq hb3 hb hn hrun m2 m3 m4 q0
  gi_wp2
  refine wpIn_mono (Q := fun ex a' w' => ex = .normal /\ a' = { tmps := #[ptrV t, ptrV w.heap.size, ptrV (w.heap.size + 1), ptrV (w.heap.size + 1 + 1), ptrV W3.heap.size, ptrV t, ptrV t, ptrV t, .iface T (ptrV p), ptrV t, ptrV t, .pointer (some ⟨t, 4, none⟩), ptrV mb, ptrV mb, .pointer (some ⟨mb, 3, none⟩), .agg #[.int .i64 m.ca, .int .i64 m.cl], .iface T (ptrV p), .iface T (ptrV p), .func (.func g) #[] lb', rteV xa xl xn, ptrV t, ptrV t, .pointer (some ⟨t, 4, none⟩), ptrV mb, rteV xa xl xn, pfxV xa xl, .bool pv, undef, undef, undef, undef, undef, undef, undef, undef, undef, undef, undef, undef, undef, undef, undef, undef, undef, undef, undef, undef, undef, undef, undef, undef, undef], defers := [] } /\ Below W4.heap.size W4 w') ?_ ?_
  case refine_1 =>
   gi_region_with_o (first
    | (refine ⟨trivial, ?_⟩; gi_at_call 79; refine (CallsIn.inRound l' (callsIn_wide.2 (of_any _ _ _ _))).mono ?_; rintro e w5 ⟨rfl, hb5⟩; (have hB5 : Below W4.heap.size W4 w5 := (Below.refl _ W4).drew.trans hb5); (have s0 := (hB5.cell (p := ⟨w.heap.size, 0, none⟩) zb).trans k0); (have s1 := (hB5.cell (p := ⟨t, 4, none⟩) zt).trans k4))
    | (refine ⟨trivial, ?_⟩; gi_at_call 78; refine (CallsIn.inRound l' (callsIn_wide.2 (hps.out _ hB5))).mono ?_; rintro e w6 ⟨rfl, hb6⟩))
   all_goals
    exact ⟨rfl, rfl, hB5.trans (hb6.mono hB5.size)⟩
  case refine_2 =>
   rintro ex a' w5 ⟨rfl, rfl, hB5⟩
   have hd5 : Below W4.heap.size W4 w5 := hB5
   have s0 : w5.cell? ⟨w.heap.size, 0, none⟩ = some (ptrV t) := (hB5.cell (p := ⟨w.heap.size, 0, none⟩) zb).trans k0
   have s2 : w5.cell? ⟨t, 2, none⟩ = some (.int .i64 s.ch) := (hB5.cell (p := ⟨t, 2, none⟩) zt).trans k2
   have s4 : w5.cell? ⟨w.heap.size + 1 + 1, 0, none⟩ = some (.int .i64 (n : Int)) := (hB5.cell (p := ⟨w.heap.size + 2, 0, none⟩) zl).trans kl
   cases pv with
   | true =>
    have hpp := of_decide_eq_true hpv
    have fin := hide (show Firm w2.heap.size W4 w5 /\ KOwn (cpO w t mb e2) W4 w5 /\ cpI w w2 t (.iface T (ptrV p)) s m mb e2 lb F F2 G (pre ++ [⟨⟨xa, xl, xn⟩, hx⟩]) w5 from by
     have hsf : Soft w2.heap.size W4 w5 := Soft.of_below hB5
     refine ⟨Firm.of_below hB5, KOwn.of_soft hsf fun k hk => (Hb.out.own k).2 (((Hb.out.soft hE hsf).own k).1 hk), n, mi, F2', Hb.out.soft hE hsf, Hn.out, fun rest => ?_⟩
     rw [List.map_append, List.append_assoc, Hrun.out]
     show cpRun s (⟨xa, xl, xn⟩ :: rest) n mi = _
     rw [cpRun, if_pos hpp])
    clear hB5 hd5 hps Hb Hn Hrun
    gi_wp2
    exact fin.out
   | false =>
    have hpp := of_decide_eq_false hpv
    by_cases hnc : (n : Int) = s.ch
    ·have fin := hide (show ∀ W, Below W4.heap.size W4 W -> Firm w2.heap.size W4 W /\ cpX w w2 t (.iface T (ptrV p)) s m mb e2 lb F F2 G (.exit 0) (pre ++ [⟨⟨xa, xl, xn⟩, hx⟩]) W from fun W hW => by
      have hsf : Soft w2.heap.size W4 W := Soft.of_below hW
      refine ⟨Firm.of_below hW, .inl ⟨rfl, n, mi, F2', Hb.out.soft hE hsf, hnc, fun rest => ?_⟩⟩
      rw [List.map_append, List.append_assoc, Hrun.out]
      show cpRun s (⟨xa, xl, xn⟩ :: rest) n mi = _
      rw [cpRun, if_neg hpp, if_pos hnc])
     have Fin := hide (fin.out w5.drew hB5.drew)
     clear hB5 hd5 hps Hb Hn Hrun fin
     rw [hnc] at s4
     gi_wp2
     gi_region_o
     all_goals
      gi_wp2
      exact Fin.out
    ·have hnq : ((n : Int) == s.ch) = false := by simpa using hnc
     gi_wp2
     refine wpIn_mono (Q := fun ex a' w' => ex = .normal /\ a' = { tmps := #[ptrV t, ptrV w.heap.size, ptrV (w.heap.size + 1), ptrV (w.heap.size + 1 + 1), ptrV W3.heap.size, ptrV t, ptrV t, ptrV t, .iface T (ptrV p), ptrV t, ptrV t, .pointer (some ⟨t, 4, none⟩), ptrV mb, ptrV mb, .pointer (some ⟨mb, 3, none⟩), .agg #[.int .i64 m.ca, .int .i64 m.cl], .iface T (ptrV p), .iface T (ptrV p), .func (.func g) #[] lb', rteV xa xl xn, ptrV t, ptrV t, .pointer (some ⟨t, 4, none⟩), ptrV mb, rteV xa xl xn, pfxV xa xl, .bool false, .int .i64 (n : Int), ptrV t, ptrV t, .pointer (some ⟨t, 2, none⟩), .int .i64 s.ch, .bool false, undef, undef, undef, undef, undef, undef, undef, undef, undef, undef, undef, undef, undef, undef, undef, undef, undef, undef, undef], defers := [] } /\ w' = w5.drew) ?_ ?_
     case refine_1 =>
      gi_region_o
      all_goals exact ⟨rfl, rfl, rfl⟩
     case refine_2 =>
      rintro ex a' w6 ⟨rfl, rfl, hw6⟩
      have hB6 : Below W4.heap.size W4 w6 := by rw [hw6]; exact hB5.drew
      have hsf6 : Soft w2.heap.size W4 w6 := Soft.of_below hB6
      have hb6 := Hb.out.soft hE hsf6
      have u0 : w6.cell? ⟨w.heap.size, 0, none⟩ = some (ptrV t) := (hB6.cell (p := ⟨w.heap.size, 0, none⟩) zb).trans k0
      have v0 : w6.cell? ⟨W3.heap.size, 0, none⟩ = some (.int .i64 xa) := (hB6.cell (p := ⟨W3.heap.size, 0, none⟩) z0).trans r0
      have v1 : w6.cell? ⟨W3.heap.size, 1, none⟩ = some (.int .i64 xl) := (hB6.cell (p := ⟨W3.heap.size, 1, none⟩) z0).trans r1
      have v2 : w6.cell? ⟨W3.heap.size, 2, none⟩ = some (.int .i64 xn) := (hB6.cell (p := ⟨W3.heap.size, 2, none⟩) z0).trans r2
      have hok : okE ⟨xa, xl, xn⟩ := HS.out.ok _ hx
      have hcu := (isPfx_iff _ _).1 Hn.out.cur
      have hcp : mi.cp <= 2304 := by have := Hn.out.c1; omega
      have hlg : mi.lg.length <= 1000 := by rw [Hn.out.lg]; omega
      have hn1 := hb6.tab.nums (fun m' hm' => by cases hm'; exact hlg)
      have hn2 : NumT (s.at (mi.lay ⟨xa, xl, xn⟩)) := by
       have a1 := needK_bd (k := (mi.lay ⟨xa, xl, xn⟩).k) (putE_sorted (a := xa) (l := xl) (n := xn) hb6.mov.eng.sorted) (ok_put hb6.mov.eng.ok hok)
       exact ⟨hn1.a0, hn1.a1, a1.1, by show needK mi.k (putE mi.ys xa xl xn) <= 100000; have : needK mi.k (putE mi.ys xa xl xn) <= 10000 := a1.2; omega, by show (0 : Int) <= (mi.lg.length : Nat); omega, by show ((mi.lg.length : Nat) : Int) <= 100000; omega⟩
      have nbt : w.heap.size ∉ mb :: (F2' ++ G) := fun hk => by
       simp only [List.mem_cons, List.mem_append] at hk
       rcases hk with hk | hk | hk
       ·have := hE.ml; omega
       ·rcases hb6.new _ hk with h6 | h6
        ·have := hE.F2l _ h6; omega
        ·omega
       ·have := hE.Gl _ hk; omega
      have hgo := hide (goesOver_any w6 t (.iface T (ptrV p)) (s.at mi) (s.at (mi.lay ⟨xa, xl, xn⟩)) (ptrV mb) F (mb :: (F2' ++ G)) 81 #[ptrV w.heap.size, ptrV W3.heap.size]
       (fun W w1 => ∃ F2'', Tab3 w1 t (.iface T (ptrV p)) (s.at (mi.lay ⟨xa, xl, xn⟩)) (ptrV mb) F (mb :: (F2'' ++ G)) /\ MovF w1 mb (mi.lay ⟨xa, xl, xn⟩) e2 lb F2'' G /\ NewF W (mb :: (F2' ++ G)) (mb :: (F2'' ++ G)) /\ NewF W F2' F2'' /\ Only (mb :: F2') W w1)
       hb6.tab hn1 hn2 rfl (enters_of Tryz.func81 (by kernel_rfl) rfl)
       (fun W hW => copy1_any W t w.heap.size W3.heap.size (.iface T (ptrV p)) (s.at mi) mi mb e2 lb F F2' G ⟨xa, xl, xn⟩ (hb6.tab.later hW) (hb6.mov.later hW) hok Hn.out.c0 hcp ((hW.cell (p := ⟨w.heap.size, 0, none⟩) (World.block_lt_of_cell? w6 _ u0)).trans u0) nbt ((hW.cell (p := ⟨W3.heap.size, 0, none⟩) (World.block_lt_of_cell? w6 _ v0)).trans v0) ((hW.cell (p := ⟨W3.heap.size, 1, none⟩) (World.block_lt_of_cell? w6 _ v1)).trans v1) ((hW.cell (p := ⟨W3.heap.size, 2, none⟩) (World.block_lt_of_cell? w6 _ v2)).trans v2) hbr)
       (fun W w1 ⟨F2'', h1, _⟩ => ⟨_, _, _, h1⟩))
      have hnl : (n : Int) < s.ch := by have := Hn.out.nle; omega
      have hwr : IntKind.i64.wrap ((n : Int) + 1) = (n : Int) + 1 := by rw [IntKind.wrap_i64]; omega
      by_cases hov : (s.at mi).over (s.at (mi.lay ⟨xa, xl, xn⟩))
      ·have hd : (decide ((s.at mi).b < (s.at (mi.lay ⟨xa, xl, xn⟩)).use) && decide ((s.at mi).use < (s.at (mi.lay ⟨xa, xl, xn⟩)).use)) = true := by rw [decide_eq_true hov.1, decide_eq_true hov.2]; rfl
       rw [hd] at hgo
       have hrun : ∀ rest, cpRun s ((pre ++ [(⟨⟨xa, xl, xn⟩, hx⟩ : { x : Ent // x ∈ s.xs })]).map (·.1) ++ rest) 0 m = (4, s.back) := fun rest => by
        rw [List.map_append, List.append_assoc, Hrun.out]
        show cpRun s (⟨xa, xl, xn⟩ :: rest) n mi = _
        rw [cpRun, if_neg hpp, if_neg hnc, if_pos hov]
       have fin := hide (show ∀ W w1 w7 w8, Below w6.heap.size w6 W -> (∃ F2'', Tab3 w1 t (.iface T (ptrV p)) (s.at (mi.lay ⟨xa, xl, xn⟩)) (ptrV mb) F (mb :: (F2'' ++ G)) /\ MovF w1 mb (mi.lay ⟨xa, xl, xn⟩) e2 lb F2'' G /\ NewF W (mb :: (F2' ++ G)) (mb :: (F2'' ++ G)) /\ NewF W F2' F2'' /\ Only (mb :: F2') W w1) -> Below w1.heap.size w1 w7 -> Tab3 w8 t (.iface T (ptrV p)) s.back (.pointer none) F [] -> Only [t] w7 w8 →
         w8.heap[w.heap.size + 1]? = some (.cells #[.int .i64 0] 3 (0, 0)) /\ Firm w2.heap.size W4 (w8.setCell ⟨w.heap.size + 1, 0, none⟩ (.int .i64 4)) /\ cpX w w2 t (.iface T (ptrV p)) s m mb e2 lb F F2 G .ret (pre ++ [⟨⟨xa, xl, xn⟩, hx⟩]) (w8.setCell ⟨w.heap.size + 1, 0, none⟩ (.int .i64 4)) from by
        rintro W w1 w7 w8 hW ⟨F2'', q1, q2, _, q4, q5⟩ h5 h8 hO8
        obtain ⟨hb7, hf7, _⟩ := hb6.lays hE hW q1 q2 q4 q5 h5
        have hr8 := (hO8.block (w.heap.size + 1) (Array.getElem?_eq_some_iff.1 hb7.res).1 (by simp; omega)).trans hb7.res
        obtain ⟨a1, a2, a3⟩ := setT hr8 0 (.int .i64 4)
        refine ⟨hr8, ((Firm.of_below hB6).trans hf7).trans ((Firm.of_only hO8 (fun k hk => .inl (by simp at hk; omega))).trans (Firm.setCell _ _ _)), .inr ⟨rfl, h8.kept (a2 _ (by omega)) (fun k hk => a2 k (by have := hE.Fl k hk; omega)) (by simp), ?_, by rw [a1]; simp, hrun⟩⟩
        refine ⟨hO8.os.trans hb7.only.os, hO8.tape.trans hb7.only.tape, hO8.output.trans hb7.only.output, by have := hO8.size; have := hb7.only.size; omega, fun k hk hn => ?_⟩
        simp only [List.mem_cons, not_or] at hn
        exact ((a2 k hn.2.1).trans (hO8.block k (by have := hb7.only.size; omega) (by simpa using hn.1))).trans (hb7.only.block k hk (by simp only [List.mem_cons, not_or]; exact hn.2)))
       have Hbx := hide (show ∀ W w1 w7, Below w6.heap.size w6 W -> (∃ F2'', Tab3 w1 t (.iface T (ptrV p)) (s.at (mi.lay ⟨xa, xl, xn⟩)) (ptrV mb) F (mb :: (F2'' ++ G)) /\ MovF w1 mb (mi.lay ⟨xa, xl, xn⟩) e2 lb F2'' G /\ NewF W (mb :: (F2' ++ G)) (mb :: (F2'' ++ G)) /\ NewF W F2' F2'' /\ Only (mb :: F2') W w1) -> Below w1.heap.size w1 w7 -> w7.cell? ⟨w.heap.size, 0, none⟩ = some (ptrV t) /\ Calls Tryz.prog 58 #[ptrV t] w7 fun r w' => Tab3 w' t (.iface T (ptrV p)) s.back (.pointer none) F [] /\ Only [t] w7 w' /\ r = .returned (.tuple #[]) from by
        rintro W w1 w7 hW ⟨F2'', q1, q2, _, q4, q5⟩ h5
        obtain ⟨hb7, _, _⟩ := hb6.lays hE hW q1 q2 q4 q5 h5
        exact ⟨by simp [World.cell?, hb7.box], rollBack_any w7 t _ (s.at (mi.lay ⟨xa, xl, xn⟩)) _ F _ hb7.tab ⟨_, rfl⟩⟩)
       clear hrun hn1 hn2 hb6 hsf6 hB6 hps Hb Hn Hrun hov hd hd5 hB5 hw6 hok hcp hlg hcu
       gi_wp2_with fail
       refine ⟨trivial, ?_⟩
       refine (CallsIn.inRound l' (callsIn_wide.2 hgo.out)).mono ?_
       rintro _ w7 ⟨rfl, W, w1, hW, hP, h5⟩
       obtain ⟨b7, hrb⟩ := Hbx.out W w1 w7 hW hP h5
       have Hrb := hide hrb
       have Fin7 := hide (fun w8 => fin.out W w1 w7 w8 hW hP h5)
       clear hgo hW hP h5 hrb fin Hbx
       gi_wp2_with fail
       refine ⟨trivial, ?_⟩
       refine (CallsIn.inRound l' (callsIn_wide.2 Hrb.out)).mono ?_
       rintro _ w8 ⟨h8, hO8, rfl⟩
       obtain ⟨hr8, hf8⟩ := Fin7.out w8 h8 hO8
       have c8 : w8.cell? ⟨w.heap.size + 1, 0, none⟩ = some (.int .i64 0) := by simp [World.cell?, hr8]
       have f8 : w8.frozen? ⟨w.heap.size + 1, 0, none⟩ = false := by simp [World.frozen?, hr8]
       have Fin := hide hf8
       clear hf8 hr8 h8 hO8 Fin7 Hrb
       gi_wp2
       exact Fin.out
      ·have hd : (decide ((s.at mi).b < (s.at (mi.lay ⟨xa, xl, xn⟩)).use) && decide ((s.at mi).use < (s.at (mi.lay ⟨xa, xl, xn⟩)).use)) = false := by
        unfold TS.over at hov
        rw [Bool.and_eq_false_iff, decide_eq_false_iff_not, decide_eq_false_iff_not]
        omega
       rw [hd] at hgo
       have hrun : ∀ rest, cpRun s ((pre ++ [(⟨⟨xa, xl, xn⟩, hx⟩ : { x : Ent // x ∈ s.xs })]).map (·.1) ++ rest) 0 m = cpRun s rest (n + 1) (mi.lay ⟨xa, xl, xn⟩) := fun rest => by
        rw [List.map_append, List.append_assoc, Hrun.out]
        show cpRun s (⟨xa, xl, xn⟩ :: rest) n mi = _
        rw [cpRun, if_neg hpp, if_neg hnc, if_neg hov]
       have hN' : CpN s m (n + 1) (mi.lay ⟨xa, xl, xn⟩) := by
        have hpx := (isPfx_iff xa xl).1 hok.1
        refine ⟨by show 0 <= mi.cp + 1; have := Hn.out.c0; omega, ?_, hok.1, Hn.out.lg, by omega⟩
        show mi.cp + 1 <= 9 * xa + xl + 1
        by_cases h0 : 0 < mi.cp
        ·have := rank_lt (b := xa) (m := xl) Hn.out.cur hok.1 (by unfold Mv.past at hpp; by_cases hk : klt mi.ca mi.cl xa xl; exact hk; exact absurd ⟨h0, hk⟩ hpp)
         have := Hn.out.c1
         omega
        ·omega
       have fin := hide (show ∀ W w1 w7, Below w6.heap.size w6 W -> (∃ F2'', Tab3 w1 t (.iface T (ptrV p)) (s.at (mi.lay ⟨xa, xl, xn⟩)) (ptrV mb) F (mb :: (F2'' ++ G)) /\ MovF w1 mb (mi.lay ⟨xa, xl, xn⟩) e2 lb F2'' G /\ NewF W (mb :: (F2' ++ G)) (mb :: (F2'' ++ G)) /\ NewF W F2' F2'' /\ Only (mb :: F2') W w1) -> Below w1.heap.size w1 w7 →
         w7.heap[w.heap.size + 2]? = some (.cells #[.int .i64 (n : Int)] 3 (0, 0)) /\ Firm w2.heap.size W4 (w7.setCell ⟨w.heap.size + 2, 0, none⟩ (.int .i64 ((n : Int) + 1))) /\ KOwn (cpO w t mb e2) W4 (w7.setCell ⟨w.heap.size + 2, 0, none⟩ (.int .i64 ((n : Int) + 1))) /\ cpI w w2 t (.iface T (ptrV p)) s m mb e2 lb F F2 G (pre ++ [⟨⟨xa, xl, xn⟩, hx⟩]) (w7.setCell ⟨w.heap.size + 2, 0, none⟩ (.int .i64 ((n : Int) + 1))) from by
        rintro W w1 w7 hW ⟨F2'', q1, q2, _, q4, q5⟩ h5
        obtain ⟨hb7, hf7, ho7⟩ := hb6.lays hE hW q1 q2 q4 q5 h5
        obtain ⟨hb8, hf8, ho8⟩ := hb7.inc hE
        refine ⟨hb7.ld, ((Firm.of_below hB6).trans hf7).trans hf8, ((KOwn.of_soft hsf6 fun k hk => (Hb.out.own k).2 ((hb6.own k).1 hk)).trans ho7).trans ho8, n + 1, _, F2'', hb8, hN', hrun⟩)
       clear hrun hN' hn1 hn2 hb6 hsf6 hB6 hps Hb Hn Hrun hov hd hd5 hB5 hw6 hok hcp hlg hcu
       gi_wp2_with fail
       refine ⟨trivial, ?_⟩
       refine (CallsIn.inRound l' (callsIn_wide.2 hgo.out)).mono ?_
       rintro _ w7 ⟨rfl, W, w1, hW, hP, h5⟩
       obtain ⟨hl7, hfin⟩ := fin.out W w1 w7 hW hP h5
       have c7 : w7.cell? ⟨w.heap.size + 1 + 1, 0, none⟩ = some (.int .i64 (n : Int)) := by simp only [World.cell?]; rw [show w.heap.size + 1 + 1 = w.heap.size + 2 from rfl, hl7]; rfl
       have f7 : w7.frozen? ⟨w.heap.size + 1 + 1, 0, none⟩ = false := by simp only [World.frozen?]; rw [show w.heap.size + 1 + 1 = w.heap.size + 2 from rfl, hl7]; rfl
       have Fin := hide hfin
       clear hfin hl7 hgo hW hP h5 fin
       gi_wp2
       exact Fin.out
 case hdone =>
  rintro D xs3 W3 hD hS3 ⟨n, mi, F2', hb, hn, hrun⟩ hK
  have hrun' := hrun []
  rw [List.append_nil, hS3, cpRun] at hrun'
  have hBw : Below w.heap.size w w2 := hB1.trans (HB2.out.mono (by have := HZ.out; omega))
  have hwl : W3.cell? ⟨w.heap.size + 1 + 1, 0, none⟩ = some (.int .i64 (n : Int)) := by simp only [World.cell?]; rw [show w.heap.size + 1 + 1 = w.heap.size + 2 from rfl, hb.ld]; rfl
  have hw0 : W3.cell? ⟨w.heap.size, 0, none⟩ = some (ptrV t) := by simp [World.cell?, hb.box]
  have hwt : W3.cell? ⟨t, 2, none⟩ = some (.int .i64 s.ch) := by simp [World.cell?, hb.tab.blk]
  have hw4 : W3.cell? ⟨t, 4, none⟩ = some (ptrV mb) := by simp [World.cell?, hb.tab.blk]
  have hwm : W3.cell? ⟨mb, 1, none⟩ = some (.int .i64 mi.ph) := by simp [World.cell?, hb.mov.blk]
  have hwf : W3.frozen? ⟨mb, 1, none⟩ = false := by simp [World.frozen?, hb.mov.blk]
  have hwr : W3.cell? ⟨w.heap.size + 1, 0, none⟩ = some (.int .i64 0) := by simp [World.cell?, hb.res]
  have hwrf : W3.frozen? ⟨w.heap.size + 1, 0, none⟩ = false := by simp [World.frozen?, hb.res]
  have zE := hE.sz
  have nm1 : ¬ (w.heap.size + 1 = mb) := by have := hE.ml; omega
  have nm2 : ¬ (mb = w.heap.size + 1) := by have := hE.ml; omega
  have nm3 : ¬ (D = mb) := by have := hE.ml; omega
  have nm4 : ¬ (D = w.heap.size + 1) := by omega
  by_cases hlt : (n : Int) < s.ch
  ·rw [if_pos hlt] at hrun'
   have fin := hide (show StPost w t F (mb :: (F2 ++ G)) (cpRun s (fromE s.xs m.ca m.cl) 0 m).1 (cpRun s (fromE s.xs m.ca m.cl) 0 m).2 (.returned (.int .i64 1)) (((W3.drew.setCell ⟨mb, 1, none⟩ (.int .i64 2)).setCell ⟨w.heap.size + 1, 0, none⟩ (.int .i64 1)).putObj D (.deferred none)) from by
    obtain ⟨a1, a2, a3⟩ := setT (w := W3.drew) hb.mov.blk 1 (.int .i64 2)
    obtain ⟨b1, b2, b3⟩ := setT (w := W3.drew.setCell ⟨mb, 1, none⟩ (.int .i64 2)) ((a2 _ nm1).trans hb.res) 0 (.int .i64 1)
    rw [hrun']
    refine cp_fin (mi := mi) hb hE hBw 2 1 ((World.putObj_heap_other (fun e => nm3 e.symm)).trans ((b2 mb nm2).trans (by rw [a1]; simp))) (fun k h1 h2 h3 h4 => ?_) ⟨rfl, rfl, rfl⟩ (by simp [World.setCell])
    refine (World.putObj_heap_other (fun e => ?_)).trans ((b2 k h2).trans (a2 k h1))
    subst e
    rcases h3 with h3 | ⟨o, h5, h6⟩
    ·omega
    ·rw [hK] at h5; cases h5; cases h6)
   have HK := hide (show ((W3.drew.setCell ⟨mb, 1, none⟩ (.int .i64 2)).setCell ⟨w.heap.size + 1, 0, none⟩ (.int .i64 1)).heap[D]? = some (.deferred (some [])) from ((Below.heap_setCell _ ⟨w.heap.size + 1, 0, none⟩ _ _ nm4).trans (Below.heap_setCell _ ⟨mb, 1, none⟩ _ _ nm3)).trans hK)
   have hres : (((W3.setCell ⟨mb, 1, none⟩ (.int .i64 2)).setCell ⟨w.heap.size + 1, 0, none⟩ (.int .i64 1)).drew.putObj D (.deferred none)).cell? ⟨w.heap.size + 1, 0, none⟩ = some (.int .i64 1) := by
    show (((W3.drew.setCell ⟨mb, 1, none⟩ (.int .i64 2)).setCell ⟨w.heap.size + 1, 0, none⟩ (.int .i64 1)).putObj D (.deferred none)).cell? ⟨w.heap.size + 1, 0, none⟩ = some (.int .i64 1)
    obtain ⟨a1, a2, a3⟩ := setT (w := W3.drew) hb.mov.blk 1 (.int .i64 2)
    obtain ⟨b1, b2, b3⟩ := setT (w := W3.drew.setCell ⟨mb, 1, none⟩ (.int .i64 2)) ((a2 _ nm1).trans hb.res) 0 (.int .i64 1)
    simp only [World.cell?]
    rw [World.putObj_heap_other (fun e => nm4 e.symm), b1]
    rfl
   clear hK hb hE hBw hrun'
   gi_wp2
   go_wp2
   go_region
   all_goals
    go_wp2
    refine ⟨by simp, .inl ⟨_, _, rfl, run_takeDeferred HK.out, ?_⟩⟩
    exact ⟨.int .i64 1, by simp [results, Tryz.results46, go_sem, *], fin.out⟩
  ·rw [if_neg hlt] at hrun'
   have fin := hide (show StPost w t F (mb :: (F2 ++ G)) (cpRun s (fromE s.xs m.ca m.cl) 0 m).1 (cpRun s (fromE s.xs m.ca m.cl) 0 m).2 (.returned (.int .i64 1)) ((W3.drew.setCell ⟨w.heap.size + 1, 0, none⟩ (.int .i64 1)).putObj D (.deferred none)) from by
    obtain ⟨a1, a2, a3⟩ := setT (w := W3.drew) hb.res 0 (.int .i64 1)
    rw [hrun']
    refine cp_fin (mi := mi) hb hE hBw mi.ph 1 ((World.putObj_heap_other (fun e => nm3 e.symm)).trans ((a2 mb nm2).trans hb.mov.blk)) (fun k h1 h2 h3 h4 => ?_) ⟨rfl, rfl, rfl⟩ (by simp [World.setCell])
    refine (World.putObj_heap_other (fun e => ?_)).trans (a2 k h2)
    subst e
    rcases h3 with h3 | ⟨o, h5, h6⟩
    ·omega
    ·rw [hK] at h5; cases h5; cases h6)
   have HK := hide (show (W3.drew.setCell ⟨w.heap.size + 1, 0, none⟩ (.int .i64 1)).heap[D]? = some (.deferred (some [])) from (Below.heap_setCell _ ⟨w.heap.size + 1, 0, none⟩ _ _ nm4).trans hK)
   have hres : ((W3.setCell ⟨w.heap.size + 1, 0, none⟩ (.int .i64 1)).drew.putObj D (.deferred none)).cell? ⟨w.heap.size + 1, 0, none⟩ = some (.int .i64 1) := by
    show ((W3.drew.setCell ⟨w.heap.size + 1, 0, none⟩ (.int .i64 1)).putObj D (.deferred none)).cell? ⟨w.heap.size + 1, 0, none⟩ = some (.int .i64 1)
    obtain ⟨a1, a2, a3⟩ := setT (w := W3.drew) hb.res 0 (.int .i64 1)
    simp only [World.cell?]
    rw [World.putObj_heap_other (fun e => nm4 e.symm), a1]
    rfl
   clear hK hb hE hBw hrun'
   gi_wp2
   go_wp2
   go_region
   all_goals
    go_wp2
    refine ⟨by simp, .inl ⟨_, _, rfl, run_takeDeferred HK.out, ?_⟩⟩
    exact ⟨.int .i64 1, by simp [results, Tryz.results46, go_sem, *], fin.out⟩

 case hstop =>
  rintro D c pre W3 hD hS3 hX hK
  obtain ⟨ys, hys⟩ := hS3
  rcases hX with ⟨rfl, n, mi, F2', hb, hnc, hrun⟩ | ⟨rfl, h1, h2', h3, h4⟩
  ·have hrun' := hrun ys
   rw [hys] at hrun'
   have hlt : ¬ ((n : Int) < s.ch) := by omega
   have hBw : Below w.heap.size w w2 := hB1.trans (HB2.out.mono (by have := HZ.out; omega))
   have hwl : W3.cell? ⟨w.heap.size + 1 + 1, 0, none⟩ = some (.int .i64 (n : Int)) := by simp only [World.cell?]; rw [show w.heap.size + 1 + 1 = w.heap.size + 2 from rfl, hb.ld]; rfl
   have hw0 : W3.cell? ⟨w.heap.size, 0, none⟩ = some (ptrV t) := by simp [World.cell?, hb.box]
   have hwt : W3.cell? ⟨t, 2, none⟩ = some (.int .i64 s.ch) := by simp [World.cell?, hb.tab.blk]
   have hw4 : W3.cell? ⟨t, 4, none⟩ = some (ptrV mb) := by simp [World.cell?, hb.tab.blk]
   have hwm : W3.cell? ⟨mb, 1, none⟩ = some (.int .i64 mi.ph) := by simp [World.cell?, hb.mov.blk]
   have hwf : W3.frozen? ⟨mb, 1, none⟩ = false := by simp [World.frozen?, hb.mov.blk]
   have hwr : W3.cell? ⟨w.heap.size + 1, 0, none⟩ = some (.int .i64 0) := by simp [World.cell?, hb.res]
   have hwrf : W3.frozen? ⟨w.heap.size + 1, 0, none⟩ = false := by simp [World.frozen?, hb.res]
   have zE := hE.sz
   have nm1 : ¬ (w.heap.size + 1 = mb) := by have := hE.ml; omega
   have nm2 : ¬ (mb = w.heap.size + 1) := by have := hE.ml; omega
   have nm3 : ¬ (D = mb) := by have := hE.ml; omega
   have nm4 : ¬ (D = w.heap.size + 1) := by omega
   have fin := hide (show StPost w t F (mb :: (F2 ++ G)) (cpRun s (fromE s.xs m.ca m.cl) 0 m).1 (cpRun s (fromE s.xs m.ca m.cl) 0 m).2 (.returned (.int .i64 1)) ((W3.drew.setCell ⟨w.heap.size + 1, 0, none⟩ (.int .i64 1)).putObj D (.deferred none)) from by
    obtain ⟨a1, a2, a3⟩ := setT (w := W3.drew) hb.res 0 (.int .i64 1)
    rw [hrun']
    refine cp_fin (mi := mi) hb hE hBw mi.ph 1 ((World.putObj_heap_other (fun e => nm3 e.symm)).trans ((a2 mb nm2).trans hb.mov.blk)) (fun k h1 h2 h3 h4 => ?_) ⟨rfl, rfl, rfl⟩ (by simp [World.setCell])
    refine (World.putObj_heap_other (fun e => ?_)).trans (a2 k h2)
    subst e
    rcases h3 with h3 | ⟨o, h5, h6⟩
    ·omega
    ·rw [hK] at h5; cases h5; cases h6)
   have HK := hide (show (W3.drew.setCell ⟨w.heap.size + 1, 0, none⟩ (.int .i64 1)).heap[D]? = some (.deferred (some [])) from (Below.heap_setCell _ ⟨w.heap.size + 1, 0, none⟩ _ _ nm4).trans hK)
   have hres : ((W3.setCell ⟨w.heap.size + 1, 0, none⟩ (.int .i64 1)).drew.putObj D (.deferred none)).cell? ⟨w.heap.size + 1, 0, none⟩ = some (.int .i64 1) := by
    show ((W3.drew.setCell ⟨w.heap.size + 1, 0, none⟩ (.int .i64 1)).putObj D (.deferred none)).cell? ⟨w.heap.size + 1, 0, none⟩ = some (.int .i64 1)
    obtain ⟨a1, a2, a3⟩ := setT (w := W3.drew) hb.res 0 (.int .i64 1)
    simp only [World.cell?]
    rw [World.putObj_heap_other (fun e => nm4 e.symm), a1]
    rfl
   clear hK hb hE hBw hrun'
   gi_wp2
   go_wp2
   go_region
   all_goals
    go_wp2
    refine ⟨by simp, .inl ⟨_, _, rfl, run_takeDeferred HK.out, ?_⟩⟩
    exact ⟨.int .i64 1, by simp [results, Tryz.results46, go_sem, *], fin.out⟩

  ·have hrun' := h4 ys
   rw [hys] at hrun'
   have hBw : Below w.heap.size w w2 := hB1.trans (HB2.out.mono (by have := HZ.out; omega))
   have zE := hE.sz
   have nm4 : ¬ (D = w.heap.size + 1) := by omega
   have fin := hide (show StPost w t F (mb :: (F2 ++ G)) (cpRun s (fromE s.xs m.ca m.cl) 0 m).1 (cpRun s (fromE s.xs m.ca m.cl) 0 m).2 (.returned (.int .i64 4)) (W3.putObj D (.deferred none)) from by
    have hk : ∀ k, k < w2.heap.size -> (W3.putObj D (.deferred none)).heap[k]? = W3.heap[k]? := fun k hk => World.putObj_heap_other (by omega)
    rw [hrun']
    refine ⟨_, .pointer none, F, [], rfl, h1.kept (hk t (by have := hE.tl; omega)) (fun k hk' => hk k (by have := hE.Fl k hk'; omega)) (by simp), fun k hk' => .inl ?_, ⟨h2'.os.trans hBw.os, h2'.tape.trans hBw.tape, h2'.output.trans hBw.output, by have := h2'.size; have := hBw.size; simp; omega, fun k hk1 hn => ?_⟩⟩
    ·simp only [List.mem_cons, List.mem_append, List.not_mem_nil, or_false] at hk' ⊢
     rcases hk' with h6 | h6
     ·exact .inl h6
     ·exact .inr (.inl h6)
    ·simp only [List.mem_cons, List.mem_append, not_or] at hn
     exact ((hk k (by omega)).trans (h2'.block k (by omega) (by simp only [List.mem_cons, not_or]; exact ⟨hn.1, by omega, by omega, hn.2.2.1, hn.2.2.2.1⟩))).trans (hBw.block k hk1))
   have hres : (W3.putObj D (.deferred none)).cell? ⟨w.heap.size + 1, 0, none⟩ = some (.int .i64 4) := by
    simp only [World.cell?]
    rw [World.putObj_heap_other (fun e => nm4 e.symm), h3]
    rfl
   have HK := hide hK
   clear hK hE hBw hrun' h1 h2' h3 h4
   gi_wp2
   refine ⟨by simp, .inl ⟨_, _, rfl, run_takeDeferred HK.out, ?_⟩⟩
   exact ⟨.int .i64 4, by simp [results, Tryz.results46, go_sem, *], fin.out⟩
end Go.Proofs.YtglbamalagacgaaGreat

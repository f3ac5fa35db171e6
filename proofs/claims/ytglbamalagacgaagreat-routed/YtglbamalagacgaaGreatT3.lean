import Derived.Test.YtglbamalagacgaaGreatS2
import Derived.Test.YtglbamalagacgaaGreatT2
namespace Go.Proofs.YtglbamalagacgaaGreat
open Go.RowKit Go.Shelf
attribute [local go_sem] Oper.semAt_some
theorem StPost.same {w : World} {t : Nat} {e : Value} {s : TS} {pm : Value} {F H : List Nat} (h : Tab3 w t e s pm F H) {w' : World} (hB : Below w.heap.size w w') (c : Int) : StPost w t F H c s (.returned (.int .i64 c)) w' :=
 ⟨e, pm, F, H, rfl, h.later hB, NewF.refl _ _, Only.of_below _ hB⟩
theorem mv_cases (s : TS) : s.mv = none ∨ ∃ m, s.mv = some m := by cases s.mv with | none => exact .inl rfl | some m => exact .inr ⟨m, rfl⟩
set_option maxHeartbeats 400000 in
theorem tstep_any (w : World) (t : Nat) (e : Value) (s : TS) (pm : Value) (F H : List Nat) (h : Tab3 w t e s pm F H) (hs : s.Ok) :
  Calls Tryz.prog 17 #[ptrV t] w (StPost w t F H s.step.1 s.step.2) := by
 rcases mv_cases s with hm | ⟨m, hm⟩
 ·have hmv := h.mv
  rw [hm] at hmv
  obtain ⟨rfl, rfl⟩ := hmv
  have t4 : w.cell? ⟨t, 4, none⟩ = some (.pointer none) := by simp [World.cell?, h.blk]
  have e1 : s.step = (0, s) := by unfold TS.step; rw [hm]
  rw [e1]
  have fin := hide (StPost.same h (Below.refl _ w) 0)
  clear h e1
  go_enter Tryz.func17, Tryz.ntmps17
  go_wp2
  go_ret
  exact fin.out
 ·have hmv := h.mv
  rw [hm] at hmv
  obtain ⟨mb, e2, lb, F2, G, rfl, hM, rfl⟩ := hmv
  have t4 : w.cell? ⟨t, 4, none⟩ = some (ptrV mb) := by simp [World.cell?, h.blk]
  have p1 : w.cell? ⟨mb, 1, none⟩ = some (.int .i64 m.ph) := by simp [World.cell?, hM.blk]
  by_cases h1 : m.ph = 1
  ·have e1 : s.step = cpRun s (fromE s.xs m.ca m.cl) 0 m := by unfold TS.step; rw [hm]; dsimp only; rw [if_pos h1]
   rw [e1]
   have hc := hide (copyChunk_any w t e s m _ F _ h hs hm)
   have hq : (m.ph == 1) = true := by simp [h1]
   generalize cpRun s (fromE s.xs m.ca m.cl) 0 m = R at *
   clear h hM hs e1 h1 hm
   go_enter Tryz.func17, Tryz.ntmps17
   go_wp2_with fail
   refine hc.out.mono ?_
   rintro r w2 hp
   have fin := hide hp
   obtain ⟨_, _, _, _, rfl, _⟩ := hp
   go_wp2
   go_ret
   exact fin.out
  ·have h2 : m.ph = 2 := by have := (hs.mv m hm).1.ph; omega
   have e1 : s.step = ctRun s (min s.ch.toNat m.lg.length) m := by unfold TS.step; rw [hm]; dsimp only; rw [if_neg h1]
   rw [e1]
   have hc := hide (catchChunk_any w t e s m _ F _ h hs hm h2)
   have hq : (m.ph == 1) = false := by simp [h1]
   generalize ctRun s (min s.ch.toNat m.lg.length) m = R at *
   clear h hM hs e1 h1 hm
   go_enter Tryz.func17, Tryz.ntmps17
   go_wp2_with fail
   refine hc.out.mono ?_
   rintro r w2 hp
   have fin := hide hp
   obtain ⟨_, _, _, _, rfl, _⟩ := hp
   go_wp2
   go_ret
   exact fin.out
set_option maxHeartbeats 400000 in
theorem tabort_any (w : World) (t : Nat) (e : Value) (s : TS) (pm : Value) (F H : List Nat) (h : Tab3 w t e s pm F H) :
  Calls Tryz.prog 25 #[ptrV t] w (StPost w t F H s.abort.1 s.abort.2) := by
 rcases mv_cases s with hm | ⟨m, hm⟩
 ·have hmv := h.mv
  rw [hm] at hmv
  obtain ⟨rfl, rfl⟩ := hmv
  have t4 : w.cell? ⟨t, 4, none⟩ = some (.pointer none) := by simp [World.cell?, h.blk]
  have e1 : s.abort = (10, s) := by unfold TS.abort; rw [hm]
  rw [e1]
  have fin := hide (StPost.same h (Below.refl _ w) 10)
  clear h e1
  go_enter Tryz.func25, Tryz.ntmps25
  go_wp2
  go_ret
  exact fin.out
 ·have hmv := h.mv
  rw [hm] at hmv
  obtain ⟨mb, e2, lb, F2, G, rfl, hM, rfl⟩ := hmv
  have t4 : w.cell? ⟨t, 4, none⟩ = some (ptrV mb) := by simp [World.cell?, h.blk]
  have e1 : s.abort = (0, s.back) := by unfold TS.abort; rw [hm]
  rw [e1]
  have hrb := hide (rollBack_any w t e s _ F _ h ⟨_, rfl⟩)
  have fin := hide (show ∀ w', Tab3 w' t e s.back (.pointer none) F [] -> Only [t] w w' -> StPost w t F (mb :: (F2 ++ G)) 0 s.back (.returned (.int .i64 0)) w' from fun w' h1 hO =>
   ⟨e, .pointer none, F, [], rfl, h1, fun k hk => .inl (by simp only [List.mem_cons, List.mem_append, List.not_mem_nil, or_false] at hk ⊢; rcases hk with h6 | h6; exact .inl h6; exact .inr (.inl h6)), hO.mono (fun x hx _ => by simp at hx; simp [hx])⟩)
  clear h hM e1 hm
  go_enter Tryz.func25, Tryz.ntmps25
  go_wp2_with fail
  refine hrb.out.mono ?_
  rintro _ w2 ⟨h1, hO, rfl⟩
  have Fin := hide (fin.out w2 h1 hO)
  clear h1 hO fin hrb
  go_wp2
  go_ret
  exact Fin.out
end Go.Proofs.YtglbamalagacgaaGreat

namespace Go.Proofs.YtglbamalagacgaaGreat
open Go.RowKit Go.Shelf
attribute [local go_sem] Oper.semAt_some
set_option maxRecDepth 4000 in
set_option maxHeartbeats 1000000 in
theorem tmove_any (w : World) (t : Nat) (e : Value) (s : TS) (pm : Value) (F H : List Nat) (k : Int) (h : Tab3 w t e s pm F H) :
  Calls Tryz.prog 24 #[ptrV t, .int .i64 k] w (StPost w t F H (s.move k).1 (s.move k).2) := by
 by_cases hk : ¬ (1 <= k /\ k <= 3)
 ·have e1 : s.move k = (7, s) := by unfold TS.move; rw [if_pos hk]
  rw [e1]
  have fin := hide (StPost.same h (Below.refl _ w) 7)
  have hn := hide (newEng_none k hk w)
  clear h e1
  go_enter Tryz.func24, Tryz.ntmps24
  go_wp2_with fail
  refine hn.out.mono ?_
  rintro _ w2 ⟨rfl, rfl⟩
  go_wp2
  go_ret
  exact fin.out
 have hk' := Decidable.not_not.1 hk
 have hn := hide (newEng_any k hk'.1 hk'.2 w)
 have tl := h.lt
 rcases mv_cases s with hm | ⟨m, hm⟩
 ·have hmv := h.mv
  rw [hm] at hmv
  obtain ⟨rfl, rfl⟩ := hmv
  have t4 : w.cell? ⟨t, 4, none⟩ = some (.pointer none) := by simp [World.cell?, h.blk]
  have t0 : w.cell? ⟨t, 0, none⟩ = some e := by simp [World.cell?, h.blk]
  have t1 : w.cell? ⟨t, 1, none⟩ = some (.int .i64 s.b) := by simp [World.cell?, h.blk]
  have hsome : ¬ (s.mv.isSome = true) := by rw [hm]; simp
  have HT := hide h
  by_cases hks : k = s.k
  ·have e1 : s.move k = (9, s) := by unfold TS.move; rw [if_neg hk, if_neg hsome, if_pos hks]
   rw [e1]
   have hkd := hide (show ∀ W, Below w.heap.size w W -> Calls Tryz.prog 45 #[e] W fun r w' => r = .returned (.int .i64 k) /\ Below W.heap.size W w' from fun W hW => by
    have := kind_any e s.xs F W (h.eng.later hW)
    rwa [h.kind, <- hks] at this)
   obtain ⟨_, _, T1, p1, rfl, _⟩ := h.eng
   clear h e1 hks hk hk'
   go_enter Tryz.func24, Tryz.ntmps24
   go_wp2_with fail
   refine hn.out.mono ?_
   rintro _ w2 ⟨T, q, Fq, rfl, hB, hE, hke, hFq⟩
   have x4 := (hB.cell (p := ⟨t, 4, none⟩) tl).trans t4
   have x0 := (hB.cell (p := ⟨t, 0, none⟩) tl).trans t0
   have hkd2 := hide (hkd.out w2 hB)
   have HB := hide hB
   clear hE hke hFq hkd hB
   go_wp2_with fail
   refine hkd2.out.mono ?_
   rintro _ w3 ⟨rfl, hb3⟩
   have fin := hide (StPost.same HT.out (HB.out.trans (hb3.mono HB.out.size)) 9)
   clear hb3 hkd2
   go_wp2
   go_ret
   exact fin.out
  ·have hkq : (k == s.k) = false := by simpa using hks
   have hkd := hide (show ∀ W, Below w.heap.size w W -> Calls Tryz.prog 45 #[e] W fun r w' => r = .returned (.int .i64 s.k) /\ Below W.heap.size W w' from fun W hW => by
    have := kind_any e s.xs F W (h.eng.later hW)
    rwa [h.kind] at this)
   obtain ⟨T1, p1, fl, ft, fc, D⟩ := h.eng.disp
   have mc := D.mc.m
   have nc := D.mc.n
   have cc := D.mc.c
   have eq := D.eq
   have hnd := needK_bd (k := s.k) h.eng.sorted h.eng.ok
   have hnl := needK_bd (k := k) (xs := []) List.Pairwise.nil (by simp)
   have hcl := hide (show ∀ W, Below w.heap.size w W -> Calls Tryz.prog fc #[ptrV p1] W fun r w' => Below W.heap.size W w' /\ r = .returned (.int .i64 s.act) from fun W hW => by
    have := D.cells W s.xs F (h.eng.later hW)
    rwa [h.kind] at this)
   have hact : 0 <= s.act /\ s.act <= 10000 := hnd
   have hwr : IntKind.i64.wrap (s.act + needK k []) = s.act + needK k [] := by rw [IntKind.wrap_i64]; omega
   have Hmv := hide (show s.move k = if s.b < s.act + needK k [] /\ s.act < s.act + needK k [] then (6, s) else (0, s.at (mv0 k)) by unfold TS.move; rw [if_neg hk, if_neg hsome, if_neg hks])
   clear h D hks hk hk'
   subst eq
   go_enter Tryz.func24, Tryz.ntmps24
   go_wp2_with fail
   refine hn.out.mono ?_
   rintro _ w2 ⟨T, q, Fq, rfl, hB, hE, hke, hFq⟩
   have x4 := (hB.cell (p := ⟨t, 4, none⟩) tl).trans t4
   have x0 := (hB.cell (p := ⟨t, 0, none⟩) tl).trans t0
   have hkd2 := hide (hkd.out w2 hB)
   obtain ⟨Tq, pq, flq, ftq, fcq, Dq⟩ := hE.disp
   have mcq := Dq.mc.m
   have ncq := Dq.mc.n
   have ccq := Dq.mc.c
   have eqq := Dq.eq
   cases eqq
   have hclq := hide (show ∀ W, Below w2.heap.size w2 W -> Calls Tryz.prog fcq #[ptrV q] W fun r w' => Below W.heap.size W w' /\ r = .returned (.int .i64 (needK k [])) from fun W hW => by
    have := Dq.cells W [] Fq (hE.later hW)
    rwa [hke] at this)
   have HB := hide hB
   have HEq := hide hE
   have HKE := hide hke
   have HFq := hide hFq
   have zt : t < w2.heap.size := by have := hB.size; omega
   clear hE hke hFq hkd hB Dq
   go_wp2_with fail
   refine hkd2.out.mono ?_
   rintro _ w3 ⟨rfl, hb3⟩
   have y0 := (hb3.cell (p := ⟨t, 0, none⟩) zt).trans x0
   have hB3 : Below w.heap.size w w3 := HB.out.trans (hb3.mono HB.out.size)
   have hcl3 := hide (hcl.out w3 hB3)
   have Hb3 := hide hb3
   clear hb3 hkd2 hcl
   go_wp2_with fail
   refine hcl3.out.mono ?_
   rintro _ w4 ⟨hb4, rfl⟩
   have hb24 : Below w2.heap.size w2 w4 := Hb3.out.trans (hb4.mono Hb3.out.size)
   have hclq4 := hide (hclq.out w4 hb24)
   have Hb4 := hide hb24
   clear hb4 hcl3 hb24
   go_wp2_with fail
   refine hclq4.out.mono ?_
   rintro _ w5 ⟨hb5, rfl⟩
   have hb25 : Below w2.heap.size w2 w5 := Hb4.out.trans (hb5.mono Hb4.out.size)
   have hB5 : Below w.heap.size w w5 := HB.out.trans (hb25.mono HB.out.size)
   have z1 : w5.cell? ⟨t, 1, none⟩ = some (.int .i64 s.b) := (hB5.cell (p := ⟨t, 1, none⟩) tl).trans t1
   have hov := hide (isOver_any w5 t s.b s.act (s.act + needK k []) z1)
   have HB5 := hide hB5
   have Hb25 := hide hb25
   clear hb5 hclq4 hB5 hb25
   go_wp2_with fail
   refine hov.out.mono ?_
   rintro _ w6 ⟨rfl, rfl⟩
   by_cases hovr : s.b < s.act + needK k [] /\ s.act < s.act + needK k []
   ·have e1 : s.move k = (6, s) := by rw [Hmv.out, if_pos hovr]
    have hd : (decide (s.b < s.act + needK k []) && decide (s.act < s.act + needK k [])) = true := by rw [decide_eq_true hovr.1, decide_eq_true hovr.2]; rfl
    have fin := hide (show StPost w t F [] (s.move k).1 (s.move k).2 (.returned (.int .i64 6)) w6 from by rw [e1]; exact StPost.same HT.out HB5.out 6)
    rw [hd]
    clear e1 hd hovr
    go_wp2
    go_ret
    exact fin.out
   ·have e1 : s.move k = (0, s.at (mv0 k)) := by rw [Hmv.out, if_neg hovr]
    have hd : (decide (s.b < s.act + needK k []) && decide (s.act < s.act + needK k [])) = false := by
     rw [Bool.and_eq_false_iff, decide_eq_false_iff_not, decide_eq_false_iff_not]; omega
    rw [hd]
    have hnm := hide (newMove_any w6 (.iface T (ptrV q)) k Fq (HEq.out.later Hb25.out) HKE.out)
    have fin := hide (show ∀ w7 mb lb G, Below w6.heap.size w6 w7 -> MovF w7 mb (mv0 k) (.iface T (ptrV q)) lb Fq G -> w6.heap.size <= mb -> (∀ x ∈ G, w6.heap.size <= x) -> w7.cell? ⟨t, 4, none⟩ = some (.pointer none) /\ w7.frozen? ⟨t, 4, none⟩ = false /\ StPost w t F [] (s.move k).1 (s.move k).2 (.returned (.int .i64 0)) (w7.setCell ⟨t, 4, none⟩ (ptrV mb)) from fun w7 mb lb G hb7 hM hmb hG => by
     have hB7 : Below w.heap.size w w7 := HB5.out.trans (hb7.mono HB5.out.size)
     have hT7 := HT.out.later hB7
     have hsz := HB5.out.size
     have hz2 := Hb25.out.size
     have hz := HB.out.size
     obtain ⟨a1, a2, a3⟩ := setT hT7.blk 4 (ptrV mb)
     have nt : t ≠ mb := by omega
     have hH : ∀ x ∈ mb :: (Fq ++ G), w.heap.size <= x := fun x hx => by
      simp only [List.mem_cons, List.mem_append] at hx
      rcases hx with rfl | hx | hx
      ·omega
      ·exact HFq.out x hx
      ·have := hG x hx; omega
     have nF : t ∉ Fq := fun hx => by have := HFq.out t hx; omega
     have nG : t ∉ G := fun hx => by have := hG t hx; omega
     refine ⟨by simp [World.cell?, hT7.blk], by simp [World.frozen?, hT7.blk], ?_⟩
     rw [e1]
     refine ⟨.iface T1 (ptrV p1), ptrV mb, F, mb :: (Fq ++ G), rfl, ⟨a1, hT7.eng.kept fun x hx => a2 x (fun e => hT7.nt (e ▸ hx)), hT7.kind, ⟨mb, _, lb, Fq, G, rfl, hM.kept (a2 mb (Ne.symm nt)) (fun x hx => a2 x (fun e => nF (e ▸ hx))) (fun x hx => a2 x (fun e => nG (e ▸ hx))), rfl⟩, hT7.nt, fun hx => by have := hH t hx; omega, fun x hx hy => by have := hH x hy; have := HT.out.eng.lt x hx; omega⟩, fun x hx => ?_, ⟨hB7.os, hB7.tape, hB7.output, by have := hB7.size; omega, fun x hx hn => (a2 x (fun e => hn (by simp [e]))).trans (hB7.block x hx)⟩⟩
     rcases List.mem_cons.1 hx with rfl | hx
     ·exact .inl (by simp)
     ·rcases List.mem_append.1 hx with hx | hx
      ·exact .inl (by simp [hx])
      ·exact .inr (hH x hx))
    clear e1 hd hovr
    go_wp2_with fail
    refine hnm.out.mono ?_
    rintro _ w7 ⟨mb, lb, G, rfl, hb7, hM, hmb, hG⟩
    obtain ⟨c7, f7, hfin⟩ := fin.out w7 mb lb G hb7 hM hmb hG
    have Fin := hide hfin
    clear hfin hM hb7 hG hnm fin
    go_wp2
    go_ret
    exact Fin.out
 ·have hmv := h.mv
  rw [hm] at hmv
  obtain ⟨mb, e2, lb, F2, G, rfl, hM, rfl⟩ := hmv
  have t4 : w.cell? ⟨t, 4, none⟩ = some (ptrV mb) := by simp [World.cell?, h.blk]
  have e1 : s.move k = (8, s) := by unfold TS.move; rw [if_neg hk, if_pos (by rw [hm]; rfl)]
  rw [e1]
  have HT := hide h
  clear h hM e1 hm hk hk'
  go_enter Tryz.func24, Tryz.ntmps24
  go_wp2_with fail
  refine hn.out.mono ?_
  rintro _ w2 ⟨T, q, Fq, rfl, hB, hE, hke, hFq⟩
  have x4 := (hB.cell (p := ⟨t, 4, none⟩) tl).trans t4
  have fin := hide (StPost.same HT.out hB 8)
  clear hE hke hFq hB
  go_wp2
  go_ret
  exact fin.out
end Go.Proofs.YtglbamalagacgaaGreat

namespace Go.Proofs.YtglbamalagacgaaGreat
open Go.RowKit Go.Shelf
attribute [local go_sem] Oper.semAt_some
def FoPost (w : World) (t : Nat) (e : Value) (F H : List Nat) (s' : TS) (r : Ending) (w' : World) : Prop :=
 ∃ pm' H', r = .returned (.tuple #[]) /\ Tab3 w' t e s' pm' F H' /\ NewF w (t :: H) (t :: H') /\ Only (t :: H) w w'
structure FoI (w wr : World) (t : Nat) (e : Value) (s : TS) (m : Mv) (mb : Nat) (e2 : Value) (lb : Nat) (F F2 G : List Nat) (cs : List Chg) (i : Nat) (G' : List Nat) : Prop where
 tab : Tab3 wr t e (s.at (m.notes (cs.take i))) (ptrV mb) F (mb :: (F2 ++ G'))
 mov : MovF wr mb (m.notes (cs.take i)) e2 lb F2 G'
 new : NewF w G G'
 only : Only G w wr
theorem FoI.later {w wr w2 : World} {t : Nat} {e : Value} {s : TS} {m : Mv} {mb : Nat} {e2 : Value} {lb : Nat} {F F2 G : List Nat} {cs : List Chg} {i : Nat} {G' : List Nat} (h : FoI w wr t e s m mb e2 lb F F2 G cs i G') (hB : Below wr.heap.size wr w2) : FoI w w2 t e s m mb e2 lb F F2 G cs i G' :=
 ⟨h.tab.later hB, h.mov.later hB, h.new, h.only.trans (Only.of_below [] hB) (by simp)⟩
theorem FoI.next {w wr w2 : World} {t : Nat} {e : Value} {s : TS} {m : Mv} {mb : Nat} {e2 : Value} {lb : Nat} {F F2 G : List Nat} {cs : List Chg} {i : Nat} {G' : List Nat} (h : FoI w wr t e s m mb e2 lb F F2 G cs i G') {c : Chg} (hc : cs[i]? = some c)
  (h1 : ∃ G'', MovF w2 mb ((m.notes (cs.take i)).note c.a c.l) e2 lb F2 G'' /\ NewF wr G' G'') (hO : Only G' wr w2) : ∃ G'', FoI w w2 t e s m mb e2 lb F F2 G cs (i + 1) G'' := by
 obtain ⟨G'', q1, q2⟩ := h1
 have e1 : m.notes (cs.take (i + 1)) = (m.notes (cs.take i)).note c.a c.l := by
  obtain ⟨hi, he⟩ := List.getElem?_eq_some_iff.1 hc
  rw [List.take_succ_eq_append_getElem hi, he, notes_snoc]
 have hs := h.only.size
 have hN : NewF wr (mb :: (F2 ++ G')) (mb :: (F2 ++ G'')) := fun k hk => by
  simp only [List.mem_cons, List.mem_append] at hk ⊢
  rcases hk with h6 | h6 | h6
  ·exact .inl (.inl h6)
  ·exact .inl (.inr (.inl h6))
  ·exact (q2 k h6).imp (fun h => .inr (.inr h)) id
 have hOb : Only (mb :: (F2 ++ G')) wr w2 := hO.mono (fun x hx _ => by simp [hx])
 refine ⟨G'', ?_, by rw [e1]; exact q1, fun k hk => (q2 k hk).elim (h.new k) (fun h6 => .inr (by omega)), h.only.trans hO h.new⟩
 rw [e1]
 have := h.tab.turn q1 hN hOb
 exact this
set_option maxRecDepth 4000 in
set_option maxHeartbeats 2000000 in
theorem follow_any (w : World) (t : Nat) (e : Value) (s : TS) (pm : Value) (F H : List Nat) (v : Value) (cs : List Chg) (u : Int) (h : Tab3 w t e s pm F H) (hv : ChgsAt w v cs) (hva : Apart v (t :: (F ++ H))) (hcs : cs.length <= 16) (hpf : ∀ c ∈ cs, isPfx c.a c.l = true) (hl : ∀ m, s.mv = some m -> m.lg.length <= 100) :
  Calls Tryz.prog 54 #[ptrV t, v, .int .i64 u] w (FoPost w t e F H (s.follow cs u)) := by
 have tl := h.lt
 obtain ⟨va, vc, rfl, hml, hcs'⟩ := hv
 rcases mv_cases s with hm | ⟨m, hm⟩
 ·have hmv := h.mv
  rw [hm] at hmv
  obtain ⟨rfl, rfl⟩ := hmv
  have t4 : w.cell? ⟨t, 4, none⟩ = some (.pointer none) := by simp [World.cell?, h.blk]
  have e1 : s.follow cs u = s := by unfold TS.follow; rw [hm]
  rw [e1]
  have fin := hide (show FoPost w t e F [] s (.returned (.tuple #[])) w from ⟨_, _, rfl, h, NewF.refl _ _, Only.refl _ _⟩)
  clear h e1 hcs' hva
  go_enter Tryz.func54, Tryz.ntmps54
  go_wp2
  refine bodyPost_ret (results_none rfl _ _ _) rfl ?_
  exact fin.out
 ·have hmv := h.mv
  rw [hm] at hmv
  obtain ⟨mb, e2, lb, F2, G, rfl, hM, rfl⟩ := hmv
  have hml2 := hl m hm
  have t4 : w.cell? ⟨t, 4, none⟩ = some (ptrV mb) := by simp [World.cell?, h.blk]
  have HI0 := hide (show FoI w w t e s m mb e2 lb F F2 G cs 0 G from ⟨by show Tab3 w t e (s.at m) _ _ _; rw [TS.at_same hm]; exact h, hM, NewF.refl _ _, Only.refl _ _⟩)
  have Hcs := hide hcs'
  have HT := hide h
  have HM := hide hM
  have Hpf := hide hpf
  have Hva := hide hva
  have HFo := hide (show s.follow cs u = if s.lim < ((m.notes cs).lg.length : Nat) ∨ (s.b < (s.at (m.notes cs)).use /\ u < (s.at (m.notes cs)).use) then s.back else s.at (m.notes cs) by unfold TS.follow; rw [hm])
  have hmlen : cs.length <= 1000 := by omega
  clear h hM hcs' hpf hva hm hl hml
  go_enter Tryz.func54, Tryz.ntmps54
  go_wp2
  go_loopw [15] (fun sl wr => ∃ (i : Nat) (G' : List Nat), i <= cs.length /\ sl = .int .i64 (i : Int) /\ Hid (FoI w wr t e s m mb e2 lb F F2 G cs i G')) (fun s _ => cs.length - (intOf s).toNat)
  case atStart => exact ⟨0, G, Nat.zero_le _, rfl, HI0⟩
  case round =>
   obtain ⟨i, G', hi, rfl, HI⟩ := hrel
   have tlr := HI.out.tab.lt
   have x4 : wr.cell? ⟨t, 4, none⟩ = some (ptrV mb) := by simp [World.cell?, HI.out.tab.blk]
   by_cases hlt : i < cs.length
   ·obtain ⟨x, hx⟩ : ∃ x, cs[i]? = some x := ⟨_, List.getElem?_eq_getElem hlt⟩
    obtain ⟨A, rfl, hA, ca, cl, cn⟩ := Hcs.out i x hx
    have hAF : A.block ∉ G := fun h => Hva.out A _ _ rfl (by omega) (by simp [h])
    have hkb := HI.out.only.block A.block hA hAF
    have ka : wr.cell? (A.add (i * 3)) = some (.int .i64 x.a) := (World.cell?_of_block (w := w) (a := A.add (i * 3)) (by rw [addB]; exact hkb)).trans ca
    have kl : wr.cell? ⟨(A.add (i * 3)).block, (A.add (i * 3)).off + 1, none⟩ = some (.int .i64 x.l) := (World.cell?_of_block (w := w) (a := ⟨(A.add (i * 3)).block, (A.add (i * 3)).off + 1, none⟩) (by simp only [addB]; exact hkb)).trans cl
    have kn : wr.cell? ⟨(A.add (i * 3)).block, (A.add (i * 3)).off + 2, none⟩ = some (.int .i64 x.n) := (World.cell?_of_block (w := w) (a := ⟨(A.add (i * 3)).block, (A.add (i * 3)).off + 2, none⟩) (by simp only [addB]; exact hkb)).trans cn
    have j0 : (0 : Int) <= (i : Int) := by omega
    have j1 : (i : Int) < (cs.length : Int) := by omega
    have hwr : IntKind.i64.wrap ((i : Int) + 1) = (i : Int) + 1 := by rw [IntKind.wrap_i64]; omega
    have hp := Hpf.out x (List.mem_of_getElem? hx)
    have hnl := notes_len (cs.take i) m
    have hnl2 : (m.notes (cs.take i)).lg.length <= 1000 := by rw [List.length_take] at hnl; omega
    obtain ⟨xa, xl, xn⟩ := x
    simp only at ka kl kn hp
    have hnote := hide (show ∀ W, Below wr.heap.size wr W -> Calls Tryz.prog 93 #[ptrV mb, pfxV xa xl] W fun r w' => (∃ G'', MovF w' mb ((m.notes (cs.take i)).note xa xl) e2 lb F2 G'' /\ NewF W G' G'') /\ Only G' W w' /\ r = .returned (.tuple #[]) from fun W hW => note_any W mb _ e2 lb F2 G' xa xl (HI.out.mov.later hW) hp hnl2)
    have ntG : t ∉ G' := fun hk => HI.out.tab.nh (by simp [hk])
    have hGl := HI.out.mov.log.lt
    have nwG : wr.heap.size ∉ G' := fun hk => by have := hGl _ hk; omega
    have hB1 : Below wr.heap.size wr (wr.alloc (Obj.cells #[.int .i64 xa, .int .i64 xl, .int .i64 xn] 103)) := (Below.refl _ wr).alloc (Nat.le_refl _) _
    have next := hide (show ∀ W w2, Below wr.heap.size wr W -> (∃ G'', MovF w2 mb ((m.notes (cs.take i)).note xa xl) e2 lb F2 G'' /\ NewF W G' G'') -> Only G' W w2 -> ∃ (i' : Nat) (G' : List Nat), i' <= cs.length /\ Value.int .i64 ((i : Int) + 1) = .int .i64 (i' : Int) /\ Hid (FoI w w2 t e s m mb e2 lb F F2 G cs i' G') from fun W w2 hW h1 hO => by
     obtain ⟨G'', q⟩ := (HI.out.later hW).next hx h1 hO
     exact ⟨i + 1, G'', by omega, by simp, q⟩)
    have zt1 : t < wr.heap.size + 1 := by omega
    have zt2 : t < wr.heap.size + 1 + 1 + 1 := by omega
    clear hx ca cl cn hkb HI hp hnl hnl2
    go_wp2
    go_region_held3 (fun w' => w'.cell? ⟨t, 4, none⟩ = some (ptrV mb) /\ w'.cell? ⟨wr.heap.size, 0, none⟩ = some (.int .i64 xa) /\ w'.cell? ⟨wr.heap.size, 1, none⟩ = some (.int .i64 xl) /\ w'.cell? ⟨wr.heap.size, 2, none⟩ = some (.int .i64 xn)) (go_keep)
     (first
      | (go_at_call 88; refine (prefixOf_any _ _ _ _).mono ?_; rintro _ w1 ⟨rfl, hw1⟩; (have hB2 : Below wr.heap.size wr w1 := by rw [hw1]; exact (by repeat (first | exact Below.refl _ _ | refine below_drewN ?_ _ | refine Below.drew ?_ | refine Below.trans ?_ (Below.mono (by assumption) ?_) | refine Below.alloc ?_ ?_ _ | refine Below.setCell ?_ ?_ _ | omega | (simp; omega) | simp))); (have hb : Below (wr.heap.size + 1) (wr.alloc (Obj.cells #[.int .i64 xa, .int .i64 xl, .int .i64 xn] 103)) w1 := by rw [hw1]; exact (by repeat (first | exact Below.refl _ _ | refine below_drewN ?_ _ | refine Below.drew ?_ | refine Below.trans ?_ (Below.mono (by assumption) ?_) | refine Below.alloc ?_ ?_ _ | refine Below.setCell ?_ ?_ _ | omega | (simp; omega) | simp))); (have hc1 : ∀ o, w1.cell? ⟨t, o, none⟩ = (wr.alloc (Obj.cells #[.int .i64 xa, .int .i64 xl, .int .i64 xn] 103)).cell? ⟨t, o, none⟩ := fun o => hb.cell (p := ⟨t, o, none⟩) zt1); (have hc2 : ∀ o, w1.cell? ⟨wr.heap.size, o, none⟩ = (wr.alloc (Obj.cells #[.int .i64 xa, .int .i64 xl, .int .i64 xn] 103)).cell? ⟨wr.heap.size, o, none⟩ := fun o => hb.cell (p := ⟨wr.heap.size, o, none⟩) (by simp)); (have hz1 : wr.heap.size < w1.heap.size := by have := hb.size; simp at this; omega); (have hz2 : t < w1.heap.size := by omega); clear hw1)
      | (go_at_call 93; refine (hnote.out _ hB2).mono ?_; rintro _ w2 ⟨hG2, hO2, rfl⟩; (have hc3 : ∀ o, w2.cell? ⟨t, o, none⟩ = w1.cell? ⟨t, o, none⟩ := fun o => hO2.cell hz2 ntG); (have hc4 : ∀ o, w2.cell? ⟨wr.heap.size, o, none⟩ = w1.cell? ⟨wr.heap.size, o, none⟩ := fun o => hO2.cell hz1 nwG)))
    have Nx := hide (next.out w1 w2 hB2 hG2 hO2)
    clear hG2 hO2 hc1 hc2 hc3 hc4 hb hB2 hnote next
    go_wp2
    exact ⟨Nx.out, by show cs.length - ((i : Int) + 1).toNat < cs.length - (i : Int).toNat; omega⟩
   ·obtain rfl : i = cs.length := by omega
    have hnlt : ¬ ((cs.length : Int) < (cs.length : Int)) := by omega
    have hI := HI.out
    rw [show FoI w wr t e s m mb e2 lb F F2 G cs cs.length G' = FoI w wr t e s m mb e2 lb F F2 G cs cs.length G' from rfl] at hI
    have hT := hI.tab
    have hM := hI.mov
    rw [List.take_length] at hT hM
    have hnl := notes_len cs m
    have hlen : (m.notes cs).lg.length <= 1000 := by omega
    have x3 : wr.cell? ⟨t, 3, none⟩ = some (.int .i64 s.lim) := by simp [World.cell?, hT.blk]
    have x5 : wr.cell? ⟨mb, 5, none⟩ = some (ptrV lb) := by simp [World.cell?, hM.blk]
    have zm := hM.lt
    have hsz := hide (show ∀ W, Below wr.heap.size wr W -> Calls Tryz.prog 49 #[ptrV lb] W fun r w' => r = .returned (.int .i64 ((m.notes cs).lg.length : Nat)) /\ w' = W from fun W hW => logSize_any W lb (m.notes cs).lg G' (hM.log.later hW))
    have hrb := hide (show ∀ W, Below wr.heap.size wr W -> Calls Tryz.prog 58 #[ptrV t] W fun r w' => Tab3 w' t e s.back (.pointer none) F [] /\ Only [t] W w' /\ r = .returned (.tuple #[]) from fun W hW => rollBack_any W t e (s.at (m.notes cs)) _ F _ (hT.later hW) ⟨_, rfl⟩)
    have Hback := hide (show ∀ W w', Below wr.heap.size wr W -> Tab3 w' t e s.back (.pointer none) F [] -> Only [t] W w' -> FoPost w t e F (mb :: (F2 ++ G)) s.back (.returned (.tuple #[])) w' from fun W w' hW h1 hO => by
     have hOw := (hI.later hW).only
     refine ⟨.pointer none, [], rfl, h1, fun k hk => .inl ?_, ⟨hO.os.trans hOw.os, hO.tape.trans hOw.tape, hO.output.trans hOw.output, Nat.le_trans hOw.size hO.size, fun k hk hn => ?_⟩⟩
     ·simp at hk; simp [hk]
     ·simp only [List.mem_cons, List.mem_append, not_or] at hn
      exact (hO.block k (by have := hOw.size; omega) (by simpa using hn.1)).trans (hOw.block k hk hn.2.2.2))
    have Hstay := hide (show ∀ W, Below wr.heap.size wr W -> FoPost w t e F (mb :: (F2 ++ G)) (s.at (m.notes cs)) (.returned (.tuple #[])) W from fun W hW => by
     have hOw := (hI.later hW).only
     refine ⟨ptrV mb, mb :: (F2 ++ G'), rfl, hT.later hW, fun k hk => ?_, ⟨hOw.os, hOw.tape, hOw.output, hOw.size, fun k hk hn => ?_⟩⟩
     ·simp only [List.mem_cons, List.mem_append] at hk ⊢
      rcases hk with h6 | h6 | h6 | h6
      ·exact .inl (.inl h6)
      ·exact .inl (.inr (.inl h6))
      ·exact .inl (.inr (.inr (.inl h6)))
      ·exact (hI.new k h6).imp (fun h => .inr (.inr (.inr h))) id
     ·simp only [List.mem_cons, List.mem_append, not_or] at hn
      exact hOw.block k hk hn.2.2.2)
    have hnum := hT.nums (fun m' hm' => by cases hm'; exact hlen)
    have hcl := hide (show ∀ W, Below wr.heap.size wr W -> Calls Tryz.prog 20 #[ptrV t] W fun r w' => r = .returned (celV (s.at (m.notes cs)).act (tgtM (s.at (m.notes cs)).mv) (lgdM (s.at (m.notes cs)).mv) (s.at (m.notes cs)).b) /\ Below W.heap.size W w' from fun W hW => tcells_any W t e _ _ F _ (hT.later hW))
    have hiu := hide (fun W => inUse_any W (s.at (m.notes cs)).act (tgtM (s.at (m.notes cs)).mv) (lgdM (s.at (m.notes cs)).mv) (s.at (m.notes cs)).b hnum.a0 hnum.a1 hnum.t0 hnum.t1 hnum.l0 hnum.l1)
    have hov := hide (show ∀ W (y : Int), Below wr.heap.size wr W -> Calls Tryz.prog 53 #[ptrV t, .int .i64 u, .int .i64 y] W fun r w' => w' = W /\ r = .returned (.bool (decide (s.b < y) && decide (u < y))) from fun W y hW => isOver_any W t s.b u y ((hW.cell (p := ⟨t, 1, none⟩) tlr).trans (by simp [World.cell?, hT.blk])))
    have e1 : (s.at (m.notes cs)).use = (s.at (m.notes cs)).act + tgtM (s.at (m.notes cs)).mv + lgdM (s.at (m.notes cs)).mv := rfl
    rw [<- e1] at hiu
    generalize (s.at (m.notes cs)).use = U at *
    generalize (s.at (m.notes cs)).act = a1 at *
    generalize tgtM (s.at (m.notes cs)).mv = a2 at *
    generalize lgdM (s.at (m.notes cs)).mv = a3 at *
    generalize (s.at (m.notes cs)).b = a4 at *
    generalize hln : (((m.notes cs).lg.length : Nat) : Int) = ln at *
    clear hT hM hI HI hnl hnum e1 HI0 HT HM Hcs Hpf Hva
    by_cases hA : s.lim < ln
    ·have hd : decide (s.lim < ln) = true := decide_eq_true hA
     have Fo : s.follow cs u = s.back := by rw [HFo.out, if_pos (.inl hA)]
     clear hov hcl hiu Hstay HFo
     go_wp2
     go_quiet ((go_at_call 49; exact Calls.quiet_of_same (hsz.out _ (by repeat (first | exact Below.refl _ _ | refine below_drewN ?_ _ | refine Below.drew ?_ | refine Below.trans ?_ (Below.mono (by assumption) ?_) | refine Below.alloc ?_ ?_ _ | refine Below.setCell ?_ ?_ _ | omega | (simp; omega) | simp)))))
     go_wp2_with fail
     refine (hrb.out _ (by repeat (first | exact Below.refl _ _ | refine below_drewN ?_ _ | refine Below.drew ?_ | refine Below.trans ?_ (Below.mono (by assumption) ?_) | refine Below.alloc ?_ ?_ _ | refine Below.setCell ?_ ?_ _ | omega | (simp; omega) | simp))).mono ?_
     rintro _ w2 ⟨h1, hO, rfl⟩
     have fin := hide (show FoPost w t e F (mb :: (F2 ++ G)) (s.follow cs u) (.returned (.tuple #[])) w2 from by rw [Fo]; exact Hback.out _ w2 (by repeat (first | exact Below.refl _ _ | refine below_drewN ?_ _ | refine Below.drew ?_ | refine Below.trans ?_ (Below.mono (by assumption) ?_) | refine Below.alloc ?_ ?_ _ | refine Below.setCell ?_ ?_ _ | omega | (simp; omega) | simp)) h1 hO)
     clear h1 hO Fo hrb Hback
     go_wp2
     go_end0
     exact fin.out
    ·have hd : decide (s.lim < ln) = false := decide_eq_false hA
     go_wp2
     go_region_held3 (fun w' => w'.cell? ⟨t, 4, none⟩ = some (ptrV mb) /\ w'.cell? ⟨t, 3, none⟩ = some (.int .i64 s.lim) /\ w'.cell? ⟨mb, 5, none⟩ = some (ptrV lb)) (go_keep)
      (first
       | (go_at_call 49; refine (hsz.out _ (by repeat (first | exact Below.refl _ _ | refine below_drewN ?_ _ | refine Below.drew ?_ | refine Below.trans ?_ (Below.mono (by assumption) ?_) | refine Below.alloc ?_ ?_ _ | refine Below.setCell ?_ ?_ _ | omega | (simp; omega) | simp))).mono ?_; rintro _ w1 ⟨rfl, rfl⟩)
       | (go_at_call 20; refine (hcl.out _ (by repeat (first | exact Below.refl _ _ | refine below_drewN ?_ _ | refine Below.drew ?_ | refine Below.trans ?_ (Below.mono (by assumption) ?_) | refine Below.alloc ?_ ?_ _ | refine Below.setCell ?_ ?_ _ | omega | (simp; omega) | simp))).mono ?_; rintro _ w2 ⟨rfl, hb2⟩; (have hB2 : Below wr.heap.size wr w2 := (Below.refl _ wr).drew.trans hb2); (have hc2 : ∀ o, w2.cell? ⟨t, o, none⟩ = wr.cell? ⟨t, o, none⟩ := fun o => hB2.cell (p := ⟨t, o, none⟩) tlr); (have hd2 : ∀ o, w2.cell? ⟨mb, o, none⟩ = wr.cell? ⟨mb, o, none⟩ := fun o => hB2.cell (p := ⟨mb, o, none⟩) zm))
       | (go_at_call 55; refine (hiu.out _).mono ?_; rintro _ w3 ⟨rfl, hb3⟩; (have hB3 : Below wr.heap.size wr w3 := hB2.trans (hb3.mono hB2.size)); (have hc3 : ∀ o, w3.cell? ⟨t, o, none⟩ = wr.cell? ⟨t, o, none⟩ := fun o => hB3.cell (p := ⟨t, o, none⟩) tlr); (have hd3 : ∀ o, w3.cell? ⟨mb, o, none⟩ = wr.cell? ⟨mb, o, none⟩ := fun o => hB3.cell (p := ⟨mb, o, none⟩) zm))
       | (go_at_call 53; refine (hov.out _ _ hB3).mono ?_; rintro _ w4 ⟨rfl, rfl⟩))
     by_cases hB : s.b < U /\ u < U
     ·have hdU : (decide (s.b < U) && decide (u < U)) = true := by rw [decide_eq_true hB.1, decide_eq_true hB.2]; rfl
      have Fo : s.follow cs u = s.back := by rw [HFo.out, if_pos (.inr hB)]
      rw [hdU]
      have Hrb := hide (hrb.out _ hB3)
      have HB3 := hide hB3
      clear hov hcl hiu Hstay HFo hb2 hb3 hB2 hB3 hc2 hc3 hd2 hd3 hrb
      go_wp2_with fail
      refine Hrb.out.mono ?_
      rintro _ w5 ⟨h1, hO, rfl⟩
      have fin := hide (show FoPost w t e F (mb :: (F2 ++ G)) (s.follow cs u) (.returned (.tuple #[])) w5 from by rw [Fo]; exact Hback.out _ w5 HB3.out h1 hO)
      clear h1 hO Fo Hrb Hback
      go_wp2
      go_end0
      exact fin.out
     ·have hdU : (decide (s.b < U) && decide (u < U)) = false := by rw [Bool.and_eq_false_iff, decide_eq_false_iff_not, decide_eq_false_iff_not]; omega
      have Fo : s.follow cs u = s.at (m.notes cs) := by rw [HFo.out, if_neg (fun h1 => h1.elim (fun h => by omega) hB)]
      rw [hdU]
      have fin := hide (show FoPost w t e F (mb :: (F2 ++ G)) (s.follow cs u) (.returned (.tuple #[])) w4 from by rw [Fo]; exact Hstay.out _ hB3)
      clear hov hcl hiu Hstay HFo hb2 hb3 hB2 hB3 hc2 hc3 hd2 hd3 hrb Hback Fo
      go_wp2
      go_end0
      exact fin.out
end Go.Proofs.YtglbamalagacgaaGreat

import Derived.Test.YtglbamalagacgaaGreatY1
namespace Go.Proofs.YtglbamalagacgaaGreat
open Go.RowKit Go.Shelf
attribute [local go_sem] Oper.semAt_some
theorem goneU_len (ls : List Ent) (a l : Int) : (goneU ls a l).length <= ls.length := List.length_filter_le _ _
set_option maxRecDepth 4000 in
set_option maxHeartbeats 1000000 in
theorem laid_r (w : World) (v : Value) (ls : List Ent) (x : Ent) (hr : RowU w v ls) (hl : ls.length <= 100000) :
  Calls Tryz.prog 107 #[v, rteV x.a x.l x.n] w (NewRow w (laidU ls x)) := by
 have hB0 : Below w.heap.size w (w.alloc (.cells #[.int .i64 x.a, .int .i64 x.l, .int .i64 x.n] 90)) := (Below.refl _ w).alloc (Nat.le_refl _) _
 have hc := hide (gone_r (w.alloc (.cells #[.int .i64 x.a, .int .i64 x.l, .int .i64 x.n] 90)) v ls x.a x.l (hr.kept fun g hg => hB0.block g (hr.lt g hg)) hl)
 obtain ⟨va, vc, rfl⟩ := hr.shape
 have HB0 := hide hB0
 clear hr hB0
 go_enter Tryz.func107, Tryz.ntmps107
 go_wp2_with fail
 refine hc.out.mono ?_
 rintro _ w2 ⟨u, rfl, hu, hb2, hf⟩
 have c0 : w2.cell? ⟨w.heap.size, 0, none⟩ = some (.int .i64 x.a) := (hb2.cell (p := ⟨w.heap.size, 0, none⟩) (by simp)).trans (by simp)
 have c1 : w2.cell? ⟨w.heap.size, 1, none⟩ = some (.int .i64 x.l) := (hb2.cell (p := ⟨w.heap.size, 1, none⟩) (by simp)).trans (by simp)
 have c2 : w2.cell? ⟨w.heap.size, 2, none⟩ = some (.int .i64 x.n) := (hb2.cell (p := ⟨w.heap.size, 2, none⟩) (by simp)).trans (by simp)
 have z1 : w.heap.size < w2.heap.size := by have := hb2.size; simp at this; omega
 have hlen := goneU_len ls x.a x.l
 obtain ⟨g, cap, W, hrun, hrow, hgr, hfr⟩ := append_rte (w := w2) 61 u (goneU ls x.a x.l).length (rteC (goneU ls x.a x.l)) x.a x.l x.n hu (by omega)
 have hbw : Below w.heap.size w w2 := HB0.out.trans (hb2.mono HB0.out.size)
 have hbA : Below w.heap.size w (w2.alloc (.cells #[.int .i64 x.a, .int .i64 x.l, .int .i64 x.n] 90)) := hbw.alloc hbw.size _
 have hf' : ∀ g, u.ownBlock = some g -> w.heap.size <= g := fun g hg => by have := hf g hg; simp at this; omega
 have fin := hide (show NewRow w (laidU ls x) (.returned (.slice (some ⟨g, 0, none⟩) ((goneU ls x.a x.l).length + 1) cap)) W from ⟨_, rfl, by
  unfold RowU laidU
  rw [List.length_append, List.length_singleton, <- rteC_snoc]
  exact hrow, grown_below hbA hgr hf' (by simp; omega), fun g' hg' => by
   have hgg : g = g' := by simpa [Value.ownBlock] using hg'
   rcases hfr with h | h
   ·exact hf' g' (by rw [<- hgg]; exact h.symm)
   ·omega⟩)
 obtain ⟨ua, uc, rfl⟩ := hu.shape
 have HRUN := hide hrun
 clear hrow hgr hfr hbA hbw hf hf' hu hb2 hc hrun hlen
 generalize (goneU ls x.a x.l).length = m at *
 obtain ⟨xa, xl, xn⟩ := x
 go_wp2_with (at_builtin; refine wpList_appendB rfl _ _ 61 61 rfl _ _ rfl rfl _ _ HRUN.out ?_)
 go_ret
 exact fin.out
theorem BestI.next {ls : List Ent} {a : Int} {i : Nat} {b : Int} {x : Ent} (h : BestI ls a i b) (hx : ls[i]? = some x) (hn : ¬ covers x a ∨ ∃ (k : Nat) (y : Ent), b = k /\ ls[k]? = some y /\ x.l <= y.l) : BestI ls a (i + 1) b := by
 have key : ∀ (P : Nat -> Ent -> Prop), (∀ j y, j < i -> ls[j]? = some y -> P j y) -> P i x -> ∀ j y, j < i + 1 -> ls[j]? = some y -> P j y := fun P h1 h2 j y hj hy => by
  rcases Nat.lt_or_ge j i with h3 | h3
  ·exact h1 j y h3 hy
  ·obtain rfl : j = i := by omega
   rw [hx] at hy
   cases hy
   exact h2
 rcases h with ⟨rfl, h1⟩ | ⟨k, y, rfl, hk, hy, hc, h1⟩
 ·refine .inl ⟨rfl, key _ h1 ?_⟩
  rcases hn with hn | ⟨k, y, e, _⟩
  ·exact hn
  ·omega
 ·refine .inr ⟨k, y, rfl, by omega, hy, hc, fun j z hj hz hcz => ?_⟩
  refine key (fun j z => covers z a -> z.l <= y.l) (fun j z hj hz => h1 j z hj hz) (fun hcx => ?_) j z hj hz hcz
  rcases hn with hn | ⟨k', y', e, hy', hl⟩
  ·exact absurd hcx hn
  ·have : k = k' := by omega
   subst this
   rw [hy] at hy'
   cases hy'
   exact hl
theorem BestI.take {ls : List Ent} {a : Int} {i : Nat} {b : Int} {x : Ent} (h : BestI ls a i b) (hx : ls[i]? = some x) (hc : covers x a) (hn : b = -1 ∨ ∃ (k : Nat) (y : Ent), b = k /\ ls[k]? = some y /\ y.l < x.l) : BestI ls a (i + 1) (i : Nat) := by
 refine .inr ⟨i, x, rfl, by omega, hx, hc, fun j z hj hz hcz => ?_⟩
 rcases Nat.lt_or_ge j i with h3 | h3
 ·rcases h with ⟨rfl, h1⟩ | ⟨k, y, rfl, hk, hy, hcy, h1⟩
  ·exact absurd hcz (h1 j z h3 hz)
  ·have := h1 j z h3 hz hcz
   rcases hn with hn | ⟨k', y', e, hy', hl⟩
   ·omega
   ·have : k = k' := by omega
    subst this
    rw [hy] at hy'
    cases hy'
    omega
 ·obtain rfl : j = i := by omega
  rw [hx] at hz
  cases hz
  omega
set_option maxRecDepth 4000 in
set_option maxHeartbeats 2000000 in
theorem best_r (w : World) (v : Value) (ls : List Ent) (a : Int) (hr : RowU w v ls) (hl : ls.length <= 1000000) (hk : ∀ x ∈ ls, okE x) :
  Calls Tryz.prog 131 #[v, .int .i64 a] w fun r w' => (∃ b, r = .returned (.int .i64 b) /\ BestI ls a ls.length b) /\ Below w.heap.size w w' := by
 obtain ⟨va, vc, rfl⟩ := hr.shape
 have HR := hide hr
 have HK := hide hk
 clear hr hk
 go_enter Tryz.func131, Tryz.ntmps131
 go_wp2
 go_loopw [5, 6] (fun s5 s6 wr => ∃ (j : Nat) (b : Int), j <= ls.length /\ s5 = .int .i64 b /\ s6 = .int .i64 (j : Int) /\ Hid (BestI ls a j b) /\ Hid (Below w.heap.size w wr)) (fun _ s6 _ => ls.length - (intOf s6).toNat)
 case atStart => exact ⟨0, -1, by omega, rfl, rfl, hide (.inl ⟨rfl, fun j x h => by omega⟩), hide (Below.refl _ _)⟩
 case round =>
  obtain ⟨j, b, hj, rfl, rfl, HI, HB⟩ := hrel
  by_cases hlt : j < ls.length
  ·obtain ⟨x, hx⟩ : ∃ x, ls[j]? = some x := ⟨_, List.getElem?_eq_getElem hlt⟩
   obtain ⟨g1, e1, a0, a1, a2, a3⟩ := rowG_rte HR.out hx
   have hok := HK.out x (List.mem_of_getElem? hx)
   have hpx := (isPfx_iff _ _).1 hok.1
   have l0 : (0 : Int) <= (j : Int) := by omega
   have l1 : (j : Int) < (ls.length : Int) := by omega
   have f0 := (HB.out.cell (p := ⟨g1, j * 3, none⟩) a0).trans a1
   have f1 := (HB.out.cell (p := ⟨g1, j * 3 + 1, none⟩) a0).trans a2
   have hw4 : IntKind.i64.wrap ((j : Int) + 1) = (j : Int) + 1 := by rw [IntKind.wrap_i64]; omega
   have z1 : g1 < wr.heap.size := by have := HB.out.size; omega
   have hwd := hide (fun W => width_ri x.l (by omega) (by omega) W)
   have hwb := wid_bd x.l
   have hw5 : IntKind.i64.wrap (x.a + wid x.l) = x.a + wid x.l := by rw [IntKind.wrap_i64]; omega
   have same := hide (show (¬ covers x a ∨ ∃ (k : Nat) (y : Ent), b = k /\ ls[k]? = some y /\ x.l <= y.l) -> ∀ W, Below w.heap.size w W -> ∃ (j' : Nat) (b' : Int), j' <= ls.length /\ Value.int .i64 b = .int .i64 b' /\ Value.int .i64 ((j : Int) + 1) = .int .i64 (j' : Int) /\ Hid (BestI ls a j' b') /\ Hid (Below w.heap.size w W) from fun h W hW => ⟨j + 1, b, by omega, rfl, by simp, hide (HI.out.next hx h), hW⟩)
   have take := hide (show covers x a -> (b = -1 ∨ ∃ (k : Nat) (y : Ent), b = k /\ ls[k]? = some y /\ y.l < x.l) -> ∀ W, Below w.heap.size w W -> ∃ (j' : Nat) (b' : Int), j' <= ls.length /\ Value.int .i64 (j : Int) = .int .i64 b' /\ Value.int .i64 ((j : Int) + 1) = .int .i64 (j' : Int) /\ Hid (BestI ls a j' b') /\ Hid (Below w.heap.size w W) from fun hc h W hW => ⟨j + 1, (j : Int), by omega, rfl, by simp, hide (HI.out.take hx hc h), hW⟩)
   have hbs : b = -1 ∨ ∃ (k : Nat) (y : Ent), b = k /\ k < ls.length /\ ls[k]? = some y := by
    rcases HI.out with ⟨h, _⟩ | ⟨k, y, h1, h2, h3, _⟩
    ·exact .inl h
    ·exact .inr ⟨k, y, h1, by omega, h3⟩
   subst e1
   have HX := hide hx
   clear a1 a2 a3 hx hok hpx HI
   by_cases hc1 : x.a <= a
   ·by_cases hc2 : a < x.a + wid x.l
    ·have hcov : covers x a := ⟨hc1, hc2⟩
     rcases hbs with rfl | ⟨k, y, rfl, hkl, hy⟩
     ·have nx := hide (take.out hcov (.inl rfl))
      clear same take
      go_wp2
      go_quiet ((go_at_call 130; exact Calls.quiet_of_same (hwd.out _)))
      go_wp2
      go_quiet (fail)
      go_wp2
      exact ⟨nx.out _ (HB.out.trans (Below.mono (by repeat (first | exact Below.refl _ _ | refine below_drewN ?_ _ | refine Below.drew ?_ | refine Below.trans ?_ (Below.mono (by assumption) ?_) | refine Below.alloc ?_ ?_ _ | refine Below.setCell ?_ ?_ _ | omega | (simp; omega) | simp)) HB.out.size)), by simp [intOf]; omega⟩
     ·obtain ⟨g2, e2, b0, b1, b2, b3⟩ := rowG_rte HR.out hy
      cases e2
      have k1 := (HB.out.cell (p := ⟨g1, k * 3 + 1, none⟩) b0).trans b2
      have k0 : (0 : Int) <= (k : Int) := by omega
      have kl : (k : Int) < (ls.length : Int) := by omega
      have dk : decide ((k : Int) < 0) = false := decide_eq_false (by omega)
      have HY := hide hy
      clear b1 b2 b3 hy
      by_cases hgt : y.l < x.l
      ·have nx := hide (take.out hcov (.inr ⟨k, y, rfl, HY.out, hgt⟩))
       clear same take
       go_wp2
       go_quiet ((go_at_call 130; exact Calls.quiet_of_same (hwd.out _)))
       go_wp2
       go_quiet (fail)
       go_wp2
       exact ⟨nx.out _ (HB.out.trans (Below.mono (by repeat (first | exact Below.refl _ _ | refine below_drewN ?_ _ | refine Below.drew ?_ | refine Below.trans ?_ (Below.mono (by assumption) ?_) | refine Below.alloc ?_ ?_ _ | refine Below.setCell ?_ ?_ _ | omega | (simp; omega) | simp)) HB.out.size)), by simp [intOf]; omega⟩
      ·have dg : decide (y.l < x.l) = false := decide_eq_false hgt
       have nx := hide (same.out (.inr ⟨k, y, rfl, HY.out, by omega⟩))
       clear same take
       go_wp2
       go_quiet ((go_at_call 130; exact Calls.quiet_of_same (hwd.out _)))
       go_wp2
       go_quiet (fail)
       go_wp2
       exact ⟨nx.out _ (HB.out.trans (Below.mono (by repeat (first | exact Below.refl _ _ | refine below_drewN ?_ _ | refine Below.drew ?_ | refine Below.trans ?_ (Below.mono (by assumption) ?_) | refine Below.alloc ?_ ?_ _ | refine Below.setCell ?_ ?_ _ | omega | (simp; omega) | simp)) HB.out.size)), by simp [intOf]; omega⟩
    ·have dc : decide (a < x.a + wid x.l) = false := decide_eq_false hc2
     have nx := hide (same.out (.inl fun h => hc2 h.2))
     clear same take hbs
     go_wp2
     go_quiet ((go_at_call 130; exact Calls.quiet_of_same (hwd.out _)))
     go_wp2
     go_quiet (fail)
     go_wp2
     exact ⟨nx.out _ (HB.out.trans (Below.mono (by repeat (first | exact Below.refl _ _ | refine below_drewN ?_ _ | refine Below.drew ?_ | refine Below.trans ?_ (Below.mono (by assumption) ?_) | refine Below.alloc ?_ ?_ _ | refine Below.setCell ?_ ?_ _ | omega | (simp; omega) | simp)) HB.out.size)), by simp [intOf]; omega⟩
   ·have dc : decide (x.a <= a) = false := decide_eq_false hc1
    have nx := hide (same.out (.inl fun h => hc1 h.1))
    clear same take hbs
    go_wp2
    go_quiet ((go_at_call 130; exact Calls.quiet_of_same (hwd.out _)))
    go_wp2
    go_quiet (fail)
    go_wp2
    exact ⟨nx.out _ (HB.out.trans (Below.mono (by repeat (first | exact Below.refl _ _ | refine below_drewN ?_ _ | refine Below.drew ?_ | refine Below.trans ?_ (Below.mono (by assumption) ?_) | refine Below.alloc ?_ ?_ _ | refine Below.setCell ?_ ?_ _ | omega | (simp; omega) | simp)) HB.out.size)), by simp [intOf]; omega⟩
  ·obtain rfl : j = ls.length := by omega
   have fin := hide (show ∃ b', Ending.returned (.int .i64 b) = .returned (.int .i64 b') /\ BestI ls a ls.length b' from ⟨b, rfl, HI.out⟩)
   go_wp2
   go_ret
   exact ⟨fin.out, HB.out⟩
end Go.Proofs.YtglbamalagacgaaGreat

namespace Go.Proofs.YtglbamalagacgaaGreat
open Go.RowKit Go.Shelf
attribute [local go_sem] Oper.semAt_some
theorem BehI.next {ls : List Ent} {r : Int} {i : Nat} {b : Int} {x : Ent} (h : BehI ls r i b) (hx : ls[i]? = some x) (hn : ¬ r <= rkI x ∨ ∃ (k : Nat) (y : Ent), b = k /\ ls[k]? = some y /\ rkI y <= rkI x) : BehI ls r (i + 1) b := by
 have key : ∀ (P : Nat -> Ent -> Prop), (∀ j y, j < i -> ls[j]? = some y -> P j y) -> P i x -> ∀ j y, j < i + 1 -> ls[j]? = some y -> P j y := fun P h1 h2 j y hj hy => by
  rcases Nat.lt_or_ge j i with h3 | h3
  ·exact h1 j y h3 hy
  ·obtain rfl : j = i := by omega
   rw [hx] at hy
   cases hy
   exact h2
 rcases h with ⟨rfl, h1⟩ | ⟨k, y, rfl, hk, hy, hc, h1⟩
 ·refine .inl ⟨rfl, key _ h1 ?_⟩
  rcases hn with hn | ⟨k, y, e, _⟩
  ·exact hn
  ·omega
 ·refine .inr ⟨k, y, rfl, by omega, hy, hc, fun j z hj hz hcz => ?_⟩
  refine key (fun j z => r <= rkI z -> rkI y <= rkI z) (fun j z hj hz => h1 j z hj hz) (fun hcx => ?_) j z hj hz hcz
  rcases hn with hn | ⟨k', y', e, hy', hl⟩
  ·exact absurd hcx hn
  ·have : k = k' := by omega
   subst this
   rw [hy] at hy'
   cases hy'
   exact hl
theorem BehI.take {ls : List Ent} {r : Int} {i : Nat} {b : Int} {x : Ent} (h : BehI ls r i b) (hx : ls[i]? = some x) (hc : r <= rkI x) (hn : b = -1 ∨ ∃ (k : Nat) (y : Ent), b = k /\ ls[k]? = some y /\ rkI x < rkI y) : BehI ls r (i + 1) (i : Nat) := by
 refine .inr ⟨i, x, rfl, by omega, hx, hc, fun j z hj hz hcz => ?_⟩
 rcases Nat.lt_or_ge j i with h3 | h3
 ·rcases h with ⟨rfl, h1⟩ | ⟨k, y, rfl, hk, hy, hcy, h1⟩
  ·exact absurd hcz (h1 j z h3 hz)
  ·have := h1 j z h3 hz hcz
   rcases hn with hn | ⟨k', y', e, hy', hl⟩
   ·omega
   ·have : k = k' := by omega
    subst this
    rw [hy] at hy'
    cases hy'
    omega
 ·obtain rfl : j = i := by omega
  rw [hx] at hz
  cases hz
  exact Int.le_refl _
set_option maxRecDepth 4000 in
set_option maxHeartbeats 2000000 in
theorem behind_r (w : World) (v : Value) (ls : List Ent) (r : Int) (hr : RowU w v ls) (hl : ls.length <= 1000000) (hk : ∀ x ∈ ls, okE x) :
  Calls Tryz.prog 120 #[v, .int .i64 r] w fun e w' => (∃ b, e = .returned (.int .i64 b) /\ BehI ls r ls.length b) /\ Below w.heap.size w w' := by
 obtain ⟨va, vc, rfl⟩ := hr.shape
 have HR := hide hr
 have HK := hide hk
 clear hr hk
 go_enter Tryz.func120, Tryz.ntmps120
 go_wp2
 go_loopw [5, 6] (fun s5 s6 wr => ∃ (j : Nat) (b : Int), j <= ls.length /\ s5 = .int .i64 b /\ s6 = .int .i64 (j : Int) /\ Hid (BehI ls r j b) /\ Hid (Below w.heap.size w wr)) (fun _ s6 _ => ls.length - (intOf s6).toNat)
 case atStart => exact ⟨0, -1, by omega, rfl, rfl, hide (.inl ⟨rfl, fun j x h => by omega⟩), hide (Below.refl _ _)⟩
 case round =>
  obtain ⟨j, b, hj, rfl, rfl, HI, HB⟩ := hrel
  by_cases hlt : j < ls.length
  ·obtain ⟨x, hx⟩ : ∃ x, ls[j]? = some x := ⟨_, List.getElem?_eq_getElem hlt⟩
   obtain ⟨g1, e1, a0, a1, a2, a3⟩ := rowG_rte HR.out hx
   have hok := HK.out x (List.mem_of_getElem? hx)
   have l0 : (0 : Int) <= (j : Int) := by omega
   have l1 : (j : Int) < (ls.length : Int) := by omega
   have f0 := (HB.out.cell (p := ⟨g1, j * 3, none⟩) a0).trans a1
   have f1 := (HB.out.cell (p := ⟨g1, j * 3 + 1, none⟩) a0).trans a2
   have hw4 : IntKind.i64.wrap ((j : Int) + 1) = (j : Int) + 1 := by rw [IntKind.wrap_i64]; omega
   have z1 : g1 < wr.heap.size := by have := HB.out.size; omega
   have hrk := hide (fun W => rank_r x.a x.l hok.1 W)
   have same := hide (show (¬ r <= rkI x ∨ ∃ (k : Nat) (y : Ent), b = k /\ ls[k]? = some y /\ rkI y <= rkI x) -> ∀ W, Below w.heap.size w W -> ∃ (j' : Nat) (b' : Int), j' <= ls.length /\ Value.int .i64 b = .int .i64 b' /\ Value.int .i64 ((j : Int) + 1) = .int .i64 (j' : Int) /\ Hid (BehI ls r j' b') /\ Hid (Below w.heap.size w W) from fun h W hW => ⟨j + 1, b, by omega, rfl, by simp, hide (HI.out.next hx h), hW⟩)
   have take := hide (show r <= rkI x -> (b = -1 ∨ ∃ (k : Nat) (y : Ent), b = k /\ ls[k]? = some y /\ rkI x < rkI y) -> ∀ W, Below w.heap.size w W -> ∃ (j' : Nat) (b' : Int), j' <= ls.length /\ Value.int .i64 (j : Int) = .int .i64 b' /\ Value.int .i64 ((j : Int) + 1) = .int .i64 (j' : Int) /\ Hid (BehI ls r j' b') /\ Hid (Below w.heap.size w W) from fun hc h W hW => ⟨j + 1, (j : Int), by omega, rfl, by simp, hide (HI.out.take hx hc h), hW⟩)
   have hbs : b = -1 ∨ ∃ (k : Nat) (y : Ent), b = k /\ k < ls.length /\ ls[k]? = some y := by
    rcases HI.out with ⟨h, _⟩ | ⟨k, y, h1, h2, h3, _⟩
    ·exact .inl h
    ·exact .inr ⟨k, y, h1, by omega, h3⟩
   subst e1
   clear a1 a2 a3 hx hok HI
   by_cases hc1 : r <= 9 * x.a + x.l
   ·rcases hbs with rfl | ⟨k, y, rfl, hkl, hy⟩
    ·have nx := hide (take.out hc1 (.inl rfl))
     clear same take
     go_wp2
     go_quiet ((go_at_call 119; exact Calls.quiet_of_same (hrk.out _)))
     go_wp2
     go_quiet (fail)
     go_wp2
     exact ⟨nx.out _ (HB.out.trans (Below.mono (by repeat (first | exact Below.refl _ _ | refine below_drewN ?_ _ | refine Below.drew ?_ | refine Below.trans ?_ (Below.mono (by assumption) ?_) | refine Below.alloc ?_ ?_ _ | refine Below.setCell ?_ ?_ _ | omega | (simp; omega) | simp)) HB.out.size)), by simp [intOf]; omega⟩
    ·obtain ⟨g2, e2, b0, b1, b2, b3⟩ := rowG_rte HR.out hy
     cases e2
     have hky := HK.out y (List.mem_of_getElem? hy)
     have k0' := (HB.out.cell (p := ⟨g1, k * 3, none⟩) b0).trans b1
     have k1 := (HB.out.cell (p := ⟨g1, k * 3 + 1, none⟩) b0).trans b2
     have k0 : (0 : Int) <= (k : Int) := by omega
     have kl : (k : Int) < (ls.length : Int) := by omega
     have dk : decide ((k : Int) < 0) = false := decide_eq_false (by omega)
     have hrk2 := hide (fun W => rank_r y.a y.l hky.1 W)
     have HY := hide hy
     clear b1 b2 b3 hy hky
     by_cases hgt : 9 * x.a + x.l < 9 * y.a + y.l
     ·have nx := hide (take.out hc1 (.inr ⟨k, y, rfl, HY.out, hgt⟩))
      clear same take
      go_wp2
      go_quiet ((go_at_call 119; exact Calls.quiet_of_same (hrk.out _)))
      go_wp2
      go_quiet ((go_at_call 119; refine Calls.mono (hrk2.out _) ?_; rintro _ _ ⟨rfl, rfl⟩; exact ⟨rfl, _, rfl⟩))
      go_wp2
      exact ⟨nx.out _ (HB.out.trans (Below.mono (by repeat (first | exact Below.refl _ _ | refine below_drewN ?_ _ | refine Below.drew ?_ | refine Below.trans ?_ (Below.mono (by assumption) ?_) | refine Below.alloc ?_ ?_ _ | refine Below.setCell ?_ ?_ _ | omega | (simp; omega) | simp)) HB.out.size)), by simp [intOf]; omega⟩
     ·have dg : decide (9 * x.a + x.l < 9 * y.a + y.l) = false := decide_eq_false hgt
      have nx := hide (same.out (.inr ⟨k, y, rfl, HY.out, by show 9 * y.a + y.l <= 9 * x.a + x.l; omega⟩))
      clear same take
      go_wp2
      go_quiet ((go_at_call 119; exact Calls.quiet_of_same (hrk.out _)))
      go_wp2
      go_quiet ((go_at_call 119; refine Calls.mono (hrk2.out _) ?_; rintro _ _ ⟨rfl, rfl⟩; exact ⟨rfl, _, rfl⟩))
      go_wp2
      exact ⟨nx.out _ (HB.out.trans (Below.mono (by repeat (first | exact Below.refl _ _ | refine below_drewN ?_ _ | refine Below.drew ?_ | refine Below.trans ?_ (Below.mono (by assumption) ?_) | refine Below.alloc ?_ ?_ _ | refine Below.setCell ?_ ?_ _ | omega | (simp; omega) | simp)) HB.out.size)), by simp [intOf]; omega⟩
   ·have dc : decide (r <= 9 * x.a + x.l) = false := decide_eq_false hc1
    have nx := hide (same.out (.inl hc1))
    clear same take hbs
    go_wp2
    go_quiet ((go_at_call 119; exact Calls.quiet_of_same (hrk.out _)))
    go_wp2
    go_quiet (fail)
    go_wp2
    exact ⟨nx.out _ (HB.out.trans (Below.mono (by repeat (first | exact Below.refl _ _ | refine below_drewN ?_ _ | refine Below.drew ?_ | refine Below.trans ?_ (Below.mono (by assumption) ?_) | refine Below.alloc ?_ ?_ _ | refine Below.setCell ?_ ?_ _ | omega | (simp; omega) | simp)) HB.out.size)), by simp [intOf]; omega⟩
  ·obtain rfl : j = ls.length := by omega
   have fin := hide (show ∃ b', Ending.returned (.int .i64 b) = .returned (.int .i64 b') /\ BehI ls r ls.length b' from ⟨b, rfl, HI.out⟩)
   go_wp2
   go_ret
   exact ⟨fin.out, HB.out⟩
end Go.Proofs.YtglbamalagacgaaGreat

import Derived.Test.YtglbamalagacgaaGreatG1
import Derived.Test.YtglbamalagacgaaGreatY6
import Derived.ArgAppend
namespace Go.Proofs.YtglbamalagacgaaGreat
open Go.RowKit Go.Shelf
attribute [local go_sem] Oper.semAt_some
abbrev lgC (lg : List (Int × Int)) : List Value := lg.flatMap fun p => [.int .i64 p.1, .int .i64 p.2]
theorem lgC_len (lg : List (Int × Int)) : (lgC lg).length = lg.length * 2 := by
 induction lg with
 | nil => rfl
 | cons p lg ih => simp only [lgC, List.flatMap_cons, List.length_append, List.length_cons, List.length_nil] at ih ⊢; omega
theorem lgC_at {lg : List (Int × Int)} {i : Nat} {p : Int × Int} (h : lg[i]? = some p) : (lgC lg)[i * 2]? = some (.int .i64 p.1) /\ (lgC lg)[i * 2 + 1]? = some (.int .i64 p.2) := by
 induction lg generalizing i with
 | nil => simp at h
 | cons q lg ih =>
  have e : lgC (q :: lg) = .int .i64 q.1 :: .int .i64 q.2 :: lgC lg := by simp [lgC]
  rw [e]
  cases i with
  | zero => simp at h; subst h; simp
  | succ i =>
   have := ih (i := i) (by simpa using h)
   rw [show (i + 1) * 2 = i * 2 + 2 by omega]
   simpa using this
theorem lgC_cell {lg : List (Int × Int)} {cs : Array Value} {off : Nat} (h : ∀ i p, lg[i]? = some p -> cs[off + i * 2]? = some (.int .i64 p.1) /\ cs[off + i * 2 + 1]? = some (.int .i64 p.2)) {j : Nat} {u : Value} (hj : (lgC lg)[j]? = some u) : cs[off + j]? = some u := by
 have hl : j < lg.length * 2 := by have := (List.getElem?_eq_some_iff.1 hj).1; rw [lgC_len] at this; exact this
 obtain ⟨p, hp⟩ : ∃ p, lg[j / 2]? = some p := ⟨_, List.getElem?_eq_getElem (by omega)⟩
 obtain ⟨h1, h2⟩ := h _ _ hp
 obtain ⟨g1, g2⟩ := lgC_at hp
 rcases Nat.mod_two_eq_zero_or_one j with hm | hm
 ·have e : j / 2 * 2 = j := by omega
  rw [e] at h1 g1
  rw [g1] at hj
  cases hj
  exact h1
 ·have e : j / 2 * 2 + 1 = j := by omega
  rw [Nat.add_assoc, e] at h2
  rw [e] at g2
  rw [g2] at hj
  cases hj
  exact h2
theorem new_row {W : World} {lg : List (Int × Int)} {g cap : Nat} {cs : Array Value} (hg : W.heap[g]? = some (.cells cs 65 (0, 0))) (hl : lg.length <= cap) (hc : cap * 2 <= cs.size) (hm : cap <= maxLen) (hcs : ∀ (j : Nat) (u : Value), (lgC lg)[j]? = some u -> cs[j]? = some u) : RowL W (.slice (some ⟨g, 0, none⟩) lg.length cap) lg :=
 .inr ⟨g, 0, cap, cs, rfl, hg, hl, by omega, hm, fun i p hp => by
  obtain ⟨g1, g2⟩ := lgC_at hp
  exact ⟨by rw [Nat.zero_add]; exact hcs _ _ g1, by rw [Nat.zero_add]; exact hcs _ _ g2⟩⟩
theorem append_log {w : World} (ty : TypeId) (v : Value) (lg : List (Int × Int)) (a l : Int) (h : RowL w v lg) (hn : lg.length <= 1000) :
  ∃ va vc w', (Builtin.append_ #[120, 120] ty #[v, .slice (some ⟨w.heap.size, 0, none⟩) 1 1]).run Tryz.prog (w.alloc (.cells #[.int .i64 a, .int .i64 l] 65)) = .ok (.slice va (lg.length + 1) vc) w' ∧
   RowL w' (.slice va (lg.length + 1) vc) (lg ++ [(a, l)]) /\ (w.alloc (.cells #[.int .i64 a, .int .i64 l] 65)).grownBy w' v.ownBlock /\ (∀ g, (Value.slice va (lg.length + 1) vc).ownBlock = some g -> v.ownBlock = some g ∨ w.heap.size < g) := by
 obtain ⟨i, hi, hz, hs, hb⟩ := Lg.entInfo
 obtain ⟨W, hW⟩ : ∃ W, W = w.alloc (.cells #[.int .i64 a, .int .i64 l] 65) := ⟨_, rfl⟩
 have hsz : W.heap.size = w.heap.size + 1 := by rw [hW]; simp
 have hA : Below w.heap.size w W := by rw [hW]; exact (Below.refl _ w).alloc (Nat.le_refl _) _
 have hnews : ∀ (j : Nat) (u : Value), ([.int .i64 a, .int .i64 l] : List Value)[j]? = some u -> W.cell? ((⟨w.heap.size, 0, none⟩ : Addr).add j) = some u := fun j u hj => by
  rw [Addr.add_lit, hW]
  simp only [World.cell?]
  rw [World.alloc_heap_new]
  simpa using hj
 rw [<- hW]
 have hM : (1001 : Nat) <= maxLen := by unfold maxLen; omega
 have hzc : (Lg.entV 0 0).cells.size = 2 := rfl
 rcases h with ⟨rfl, rfl⟩ | ⟨g, off, cap, cs, rfl, hg, hlc, hcs, hcm, hrow⟩
 ·have hr := run_append_nil (P := Tryz.prog) W 120 ty 65 i (Lg.entV 0 0) Tryz.underlying120 hi hz ⟨w.heap.size, 0, none⟩ 1 1 [.int .i64 a, .int .i64 l] (by rw [hs]; rfl) hnews (by omega) (by omega) (by rw [hb]; omega)
  have hge := grownCap_ge W 1 0 65
  refine ⟨_, _, _, hr, ?_, grownBy_below ((Below.refl _ W).drew.alloc (Nat.le_refl _) _) _, fun g hg => ?_⟩
  ·refine new_row (lg := [(a, l)]) (heap_alloc_new W.drew _) (by simpa using hge) ?_ (grownCap_le_maxLen W 1 0 _ (by omega)) fun j u hj => ?_
   ·rw [Array.size_append, size_zeroCells, hzc]; simp; omega
   ·rw [Array.getElem?_append_left (by have := (List.getElem?_eq_some_iff.1 hj).1; simpa using this)]
    simpa using hj
  ·right
   have : W.heap.size = g := by simpa [Value.ownBlock] using hg
   omega
 ·have hgl := (Array.getElem?_eq_some_iff.1 hg).1
  have hg2 : W.heap[g]? = some (.cells cs 65 (0, 0)) := (hA.block g hgl).trans hg
  have hcell : ∀ o, W.cell? ⟨g, o, none⟩ = cs[o]? := fun o => by simp [World.cell?, hg2]
  by_cases hroom : lg.length + 1 <= cap
  ·have hlt : off + lg.length * 2 + 1 < cs.size := by omega
   have hr := run_append_room_cells (P := Tryz.prog) W 120 ty 65 i Tryz.underlying120 hi g off lg.length cap ⟨w.heap.size, 0, none⟩ 1 1 [.int .i64 a, .int .i64 l] (by rw [hs]; rfl) hnews (by intro u hu; simp at hu; rcases hu with rfl | rfl <;> rfl) hroom
    (fun j hj => by rw [hs, hcell]; simp at hj; simp; omega) (fun j hj => by simp [World.frozen?, hg2])
   rw [hs] at hr
   have e : W.setCells g (off + lg.length * 2) [.int .i64 a, .int .i64 l] = (W.setCell ⟨g, off + lg.length * 2, none⟩ (.int .i64 a)).setCell ⟨g, off + lg.length * 2 + 1, none⟩ (.int .i64 l) := rfl
   rw [e] at hr
   have a1 := (setT hg2 (off + lg.length * 2) (.int .i64 a)).1
   have b1 := (setT a1 (off + lg.length * 2 + 1) (.int .i64 l)).1
   have ho := (onlyY W g (off + lg.length * 2) (.int .i64 a)).andY (off + lg.length * 2 + 1) (.int .i64 l)
   refine ⟨_, _, _, hr, ?_, ⟨ho.os, ho.tape, ho.output, ho.size, fun k hk hne => ho.block k hk (by simp; intro e; exact hne (by rw [e]; rfl))⟩, fun g' hg' => .inl (by simpa [Value.ownBlock] using hg')⟩
   refine .inr ⟨g, off, cap, _, by simp, b1, by simp; omega, by simpa using hcs, hcm, fun i p hp => ?_⟩
   rcases Nat.lt_or_ge i lg.length with h1 | h1
   ·rw [List.getElem?_append_left h1] at hp
    obtain ⟨r1, r2⟩ := hrow i p hp
    constructor
    ·rw [Array.getElem?_setIfInBounds, if_neg (by omega), Array.getElem?_setIfInBounds, if_neg (by omega)]; exact r1
    ·rw [Array.getElem?_setIfInBounds, if_neg (by omega), Array.getElem?_setIfInBounds, if_neg (by omega)]; exact r2
   ·have hi2 : i = lg.length := by
     have := (List.getElem?_eq_some_iff.1 hp).1
     simp at this
     omega
    subst hi2
    have hp2 : (a, l) = p := by simpa using hp
    subst hp2
    constructor
    ·rw [Array.getElem?_setIfInBounds, if_neg (by omega), Array.getElem?_setIfInBounds, if_pos rfl, if_pos (by omega)]
    ·rw [Array.getElem?_setIfInBounds, if_pos rfl, if_pos (by simp; omega)]
  ·have hfits : Builtin.nextslicecap (lg.length + 1) cap * i.bytes <= 281474976710656 := growslice_fits (by omega) (by
    rw [hb]
    calc (lg.length + 1) * 16 <= 1001 * 16 := Nat.mul_le_mul (by omega) (Nat.le_refl _)
     _ <= _ := by omega)
   have hr := run_append_grow (P := Tryz.prog) W 120 ty 65 i (Lg.entV 0 0) Tryz.underlying120 hi hz ⟨g, off, none⟩ lg.length cap (lgC lg) (by rw [lgC_len, hs]) (fun j u hj => by rw [Addr.add_lit, hcell]; exact lgC_cell hrow hj) ⟨w.heap.size, 0, none⟩ 1 1 [.int .i64 a, .int .i64 l] (by rw [hs]; rfl) hnews (by omega) (by omega) hfits
   have hge := grownCap_ge W (lg.length + 1) cap 65
   refine ⟨_, _, _, hr, ?_, grownBy_below ((Below.refl _ W).drew.alloc (Nat.le_refl _) _) _, fun g' hg' => ?_⟩
   ·have hln : (lg ++ [(a, l)]).length = lg.length + 1 := by simp
    rw [<- hln]
    refine new_row (lg := lg ++ [(a, l)]) (heap_alloc_new W.drew _) (by rw [hln]; exact hge) ?_ (grownCap_le_maxLen W _ cap _ (by rw [hln]; omega)) fun j u hj => ?_
    ·rw [Array.size_append, Array.size_append, List.size_toArray, List.size_toArray, size_zeroCells, hzc, lgC_len]
     simp only [List.length_cons, List.length_nil]
     omega
    ·have e : lgC (lg ++ [(a, l)]) = lgC lg ++ [.int .i64 a, .int .i64 l] := by simp [lgC]
     rw [e] at hj
     rw [Array.getElem?_append_left (by have := (List.getElem?_eq_some_iff.1 hj).1; simpa using this)]
     simpa using hj
   ·right
    have : W.heap.size = g' := by simpa [Value.ownBlock] using hg'
    omega
theorem past_rank {m : Mv} {a l : Int} (hp : isPfx a l = true) (hc : isPfx m.ca m.cl = true) (h0 : 0 <= m.cp) : m.past a l ↔ ¬ cuM (some m) < 9 * a + l := by
 have h1 := (isPfx_iff _ _).1 hp
 have h2 := (isPfx_iff _ _).1 hc
 have e : cuM (some m) = if m.cp = 0 then -1 else 9 * m.ca + m.cl := rfl
 rw [e]
 unfold Mv.past klt
 by_cases hz : m.cp = 0
 ·rw [if_pos hz]; omega
 ·rw [if_neg hz]; omega
theorem RowL.cells {w : World} {va : Option Addr} {vc : Nat} {lg : List (Int × Int)} {i : Nat} {p : Int × Int} (h : RowL w (.slice va lg.length vc) lg) (hp : lg[i]? = some p) : ∃ g off, va = some ⟨g, off, none⟩ /\ g < w.heap.size /\ w.cell? ⟨g, off + i * 2, none⟩ = some (.int .i64 p.1) /\ w.cell? ⟨g, off + i * 2 + 1, none⟩ = some (.int .i64 p.2) := by
 rcases h with ⟨_, rfl⟩ | ⟨g, off, cap, cs, he, hg, _, _, _, hr⟩
 ·simp at hp
 ·cases he
  obtain ⟨r1, r2⟩ := hr i p hp
  exact ⟨g, off, rfl, (Array.getElem?_eq_some_iff.1 hg).1, by simp [World.cell?, hg, r1], by simp [World.cell?, hg, r2]⟩
theorem set11 (v0 v1 v2 v3 v4 v5 v6 v7 v8 v9 v10 v11 v12 v13 x : Value) : #[v0, v1, v2, v3, v4, v5, v6, v7, v8, v9, v10, v11, v12, v13].setIfInBounds 11 x = #[v0, v1, v2, v3, v4, v5, v6, v7, v8, v9, v10, x, v12, v13] := by simp
theorem RefT.logs {w W : World} {y : Nat} {s : TS} {m : Mv} {c0 : Int} {vr vc vl vl' : Value} {rl cl : List Ent} {lg : List (Int × Int)} (h : RefT w y (s.at m) c0 vr vc vl rl cl) (hk : ∀ k, k < w.heap.size -> vl.ownBlock ≠ some k -> W.heap[k]? = w.heap[k]?) (hr : RowL W vl' lg) (hn : ∀ g, vl'.ownBlock = some g -> vl.ownBlock = some g ∨ w.heap.size <= g) :
  RefT (W.setCell ⟨y, 11, none⟩ vl') y (s.at { m with lg := lg }) c0 vr vc vl' rl cl := by
 have hy : W.heap[y]? = some (.cells (refB c0 (s.at m) vr vc vl) 122 (0, 0)) := (hk y h.lt h.y3).trans h.blk
 have a1 := (setT hy 11 vl').1
 rw [set11] at a1
 have hne : ∀ g, g ≠ y -> (W.setCell ⟨y, 11, none⟩ vl').heap[g]? = W.heap[g]? := fun g hg => Below.heap_setCell _ _ _ _ hg
 have yl := h.lt
 have hkr : ∀ (u : Value), (∀ g, u.ownBlock = some g -> g < w.heap.size) -> u.ownBlock ≠ some y -> (∀ g, vl.ownBlock = some g -> u.ownBlock ≠ some g) -> ∀ g, u.ownBlock = some g -> (W.setCell ⟨y, 11, none⟩ vl').heap[g]? = w.heap[g]? := fun u hl hy hv g hg =>
  (hne g fun e => hy (by rw [hg, e])).trans (hk g (hl g hg) fun hv2 => hv g hv2 hg)
 have hny : vl'.ownBlock ≠ some y := fun e => by
  rcases hn y e with h1 | h1
  ·exact h.y3 h1
  ·omega
 exact ⟨a1, h.rr.kept (hkr vr h.rr.lt h.y1 h.l1), h.rep, h.cr.kept (hkr vc h.cr.lt h.y2 h.l2), h.cep, hr.kept fun g hg => hne g fun e => hny (by rw [hg, e]), h.y1, h.y2, hny, fun g hg => (hn g hg).elim (h.l1 g) fun h1 hv => by have := h.rr.lt g hv; omega, fun g hg => (hn g hg).elim (h.l2 g) fun h1 hv => by have := h.cr.lt g hv; omega⟩
end Go.Proofs.YtglbamalagacgaaGreat

namespace Go.Proofs.YtglbamalagacgaaGreat
open Go.RowKit Go.Shelf
attribute [local go_sem] Oper.semAt_some
theorem note_no {m : Mv} {a l : Int} (h : ¬ (m.ph = 2 ∨ m.past a l)) : m.note a l = m := by unfold Mv.note; rw [if_neg h]
theorem note_old {m : Mv} {a l : Int} (h : m.ph = 2 ∨ m.past a l) (hm : (a, l) ∈ m.lg) : m.note a l = m := by unfold Mv.note joinL; rw [if_pos h, if_pos hm]
theorem note_new {m : Mv} {a l : Int} (h : m.ph = 2 ∨ m.past a l) (hm : (a, l) ∉ m.lg) : m.note a l = { m with lg := m.lg ++ [(a, l)] } := by unfold Mv.note joinL; rw [if_pos h, if_neg hm]
set_option maxRecDepth 8000 in
set_option maxHeartbeats 2000000 in
theorem log_r (w : World) (y : Nat) (s : TS) (m : Mv) (A : List Nat) (a l : Int) (hT : RT w y (s.at m) A) (hp : isPfx a l = true) (hc : isPfx m.ca m.cl = true) (h0 : 0 <= m.cp) (hph : m.ph = 1 ∨ m.ph = 2) (hlg : m.lg.length <= 200) :
  Calls Tryz.prog 142 #[ptrV y, .int .i64 a, .int .i64 l] w (RTurn w y A (.tuple #[]) (s.at (m.note a l))) := by
 have HT := hide hT
 obtain ⟨c0, vr, vc, vl, rl, cl, h, rfl⟩ := hT
 have yl := h.lt
 have e7 : w.cell? ⟨y, 7, none⟩ = some (.int .i64 m.ph) := h.q7
 have e9 : w.cell? ⟨y, 9, none⟩ = some (.int .i64 (cuM (some m))) := h.q9
 have hrk := hide (fun W => rank_r a l hp W)
 have hpr := past_rank hp hc h0
 have stay := hide (show m.note a l = m -> ∀ W, Below w.heap.size w W -> RTurn w y (refA y vr vc vl) (.tuple #[]) (s.at (m.note a l)) (.returned (.tuple #[])) W from fun e W hW => by rw [e]; exact ⟨_, rfl, HT.out.later hW, NewF.refl _ _, Only.of_below _ hW⟩)
 have HH := hide h
 have HL := hide (fun W (hW : Below w.heap.size w W) => And.intro (h.later hW).q11 (And.intro (show RowL W vl m.lg from (h.later hW).lr) (And.intro (h.later hW).lt (h.later hW).fz)))
 have hlr : RowL w vl m.lg := h.lr
 obtain ⟨la, lc, hlv⟩ := hlr.shape
 subst hlv
 clear h hlr
 by_cases hnote : m.ph = 2 ∨ m.past a l
 ·-- it is noted
  have hgo : m.ph = 2 ∨ (m.ph = 1 /\ decide (cuM (some m) < 9 * a + l) = false) := by
   rcases hph with h1 | h1
   ·rcases hnote with h2 | h2
    ·omega
    ·exact .inr ⟨h1, decide_eq_false (hpr.1 h2)⟩
   ·exact .inl h1
  have hfound := hide (show (a, l) ∈ m.lg -> m.note a l = m from note_old hnote)
  have hnew := hide (show (a, l) ∉ m.lg -> m.note a l = { m with lg := m.lg ++ [(a, l)] } from note_new hnote)
  generalize cuM (some m) = cu at *
  clear hnote hpr hph
  rcases hgo with h2 | ⟨h1, h2⟩
  case' inl => rw [h2] at e7
  case' inr => rw [h1] at e7
  all_goals
   go_enter Tryz.func142, Tryz.ntmps142
   go_wp2
   go_quiet ((go_at_call 119; exact Calls.quiet_of_same (hrk.out _)))
   go_wp2
   go_loopw [6] (fun s6 wr => ∃ j : Nat, j <= m.lg.length /\ s6 = .int .i64 (j : Int) /\ Hid (∀ i p, i < j -> m.lg[i]? = some p -> ¬ p = (a, l)) /\ Hid (Below w.heap.size w wr)) (fun s6 _ => m.lg.length - (intOf s6).toNat)
   case atStart => exact ⟨0, by omega, rfl, hide (fun i p hi => by omega), hide (by repeat (first | exact Below.refl _ _ | refine below_drewN ?_ _ | refine Below.drew ?_ | refine Below.trans ?_ (Below.mono (by assumption) ?_) | refine Below.alloc ?_ ?_ _ | refine Below.setCell ?_ ?_ _ | omega | (simp; omega) | simp))⟩
   case round =>
    obtain ⟨j, hj, rfl, HJ, HB⟩ := hrel
    obtain ⟨q11, ql, zy, qf⟩ := HL.out wr HB.out
    by_cases hlt : j < m.lg.length
    ·obtain ⟨p, hpj⟩ : ∃ p, m.lg[j]? = some p := ⟨_, List.getElem?_eq_getElem hlt⟩
     obtain ⟨g, off, eg, gl, c1, c2⟩ := ql.cells hpj
     subst eg
     have j0 : (0 : Int) <= (j : Int) := by omega
     have j1 : (j : Int) < (m.lg.length : Int) := by omega
     have hw1 : IntKind.i64.wrap ((j : Int) + 1) = (j : Int) + 1 := by rw [IntKind.wrap_i64]; omega
     obtain ⟨pa, pl⟩ := p
     simp only at c1 c2
     have next := hide (show ¬ (pa, pl) = (a, l) -> ∃ j' : Nat, j' <= m.lg.length /\ Value.int .i64 ((j : Int) + 1) = .int .i64 (j' : Int) /\ Hid (∀ i p, i < j' -> m.lg[i]? = some p -> ¬ p = (a, l)) /\ Hid (Below w.heap.size w wr) from fun hne => ⟨j + 1, by omega, by simp, hide (fun i p hi hpi => by
      rcases Nat.lt_or_ge i j with h3 | h3
      ·exact HJ.out i p h3 hpi
      ·obtain rfl : i = j := by omega
       rw [hpj] at hpi
       cases hpi
       exact hne), HB⟩)
     by_cases hpa : pa = a
     ·by_cases hpl : pl = l
      ·have fin := hide (stay.out (hfound.out (by rw [<- hpa, <- hpl]; exact List.mem_of_getElem? hpj)) wr HB.out)
       rw [hpa] at c1
       rw [hpl] at c2
       clear ql hpj next
       go_wp2
       go_end0
       exact fin.out
      ·have d2 : (pl == l) = false := by simpa using hpl
       have nx := hide (next.out fun e => hpl (congrArg Prod.snd e))
       rw [hpa] at c1
       clear ql hpj next hpl
       go_wp2
       exact ⟨nx.out, by simp [intOf]; omega⟩
     ·have d2 : (pa == a) = false := by simpa using hpa
      have nx := hide (next.out fun e => hpa (congrArg Prod.fst e))
      clear ql hpj next hpa
      go_wp2
      exact ⟨nx.out, by simp [intOf]; omega⟩
    ·obtain rfl : j = m.lg.length := by omega
     have hnm : (a, l) ∉ m.lg := fun hm => by
      obtain ⟨i, hi⟩ := List.mem_iff_getElem?.1 hm
      exact HJ.out i (a, l) (List.getElem?_eq_some_iff.1 hi).1 hi rfl
     obtain ⟨va, vcc, W, hrun, hrow, hgr, hfr⟩ := append_log (w := wr) 120 (.slice la m.lg.length lc) m.lg a l ql (by omega)
     have hA : Below wr.heap.size wr (wr.alloc (.cells #[.int .i64 a, .int .i64 l] 65)) := (Below.refl _ wr).alloc (Nat.le_refl _) _
     have hkW : ∀ k, k < wr.heap.size -> (Value.slice la m.lg.length lc).ownBlock ≠ some k -> W.heap[k]? = wr.heap[k]? := fun k hk hv => (hgr.block k (by simp; omega) (fun e => hv e.symm)).trans (hA.block k hk)
     have hzW : wr.heap.size <= W.heap.size := by have := hgr.size; simp at this; omega
     have href := (HH.out.later HB.out).logs hkW hrow (fun g hg => (hfr g hg).imp id fun h => by omega)
     have fin := hide (show RTurn w y (refA y vr vc (.slice la m.lg.length lc)) (.tuple #[]) (s.at (m.note a l)) (.returned (.tuple #[])) (W.setCell ⟨y, 11, none⟩ (.slice va (m.lg.length + 1) vcc)) from by
      rw [hnew.out hnm]
      have hwz := HB.out.size
      refine ⟨_, rfl, ⟨c0, vr, vc, _, rl, cl, href, rfl⟩, fun k hk => ?_, ⟨?_, ?_, ?_, ?_, fun k hk hn => ?_⟩⟩
      ·rcases refA_mem.1 hk with h1 | h1 | h1 | h1
       ·exact .inl (refA_mem.2 (.inl h1))
       ·exact .inl (refA_mem.2 (.inr (.inl h1)))
       ·exact .inl (refA_mem.2 (.inr (.inr (.inl h1))))
       ·rcases hfr k h1 with h2 | h2
        ·exact .inl (refA_mem.2 (.inr (.inr (.inr h2))))
        ·exact .inr (by omega)
      ·exact hgr.os.trans HB.out.os
      ·exact hgr.tape.trans HB.out.tape
      ·exact hgr.output.trans HB.out.output
      ·have : (W.setCell ⟨y, 11, none⟩ (.slice va (m.lg.length + 1) vcc)).heap.size = W.heap.size := by simp [World.setCell]
       omega
      ·have hn' : ¬ (k = y ∨ vr.ownBlock = some k ∨ vc.ownBlock = some k ∨ (Value.slice la m.lg.length lc).ownBlock = some k) := fun h => hn (refA_mem.2 h)
       exact ((Below.heap_setCell _ _ _ _ (fun e => hn' (.inl e))).trans (hkW k (by omega) fun e => hn' (.inr (.inr (.inr e))))).trans (HB.out.block k hk))
     have hy2 := (HH.out.later HB.out)
     have r11 : W.cell? ⟨y, 11, none⟩ = some (.slice la m.lg.length lc) := by
      have := hkW y zy hy2.y3
      simp only [World.cell?, this]
      exact q11
     have rf : ∀ o, W.frozen? ⟨y, o, none⟩ = false := fun o => by
      have := hkW y zy hy2.y3
      have e := qf o
      simp only [World.frozen?, this] at e ⊢
      exact e
     have zW : y < W.heap.size := by omega
     have HRUN := hide hrun
     clear ql hnm hrow hgr hfr hA hkW href hy2 hrun HJ
     go_wp2_with (at_builtin; refine wpList_appendB rfl _ _ 120 120 rfl _ _ rfl rfl _ _ HRUN.out ?_)
     go_end0
     exact fin.out
 ·have h1 : m.ph = 1 := by rcases hph with h | h; exact h; exact absurd (.inl h) hnote
  have h2 : decide (cuM (some m) < 9 * a + l) = true := decide_eq_true (by
   by_cases hq : cuM (some m) < 9 * a + l
   ·exact hq
   ·exact absurd (.inr (hpr.2 hq)) hnote)
  have fin := hide (stay.out (note_no hnote))
  rw [h1] at e7
  generalize cuM (some m) = cu at *
  clear hnote hpr hph stay
  go_enter Tryz.func142, Tryz.ntmps142
  go_wp2
  go_quiet ((go_at_call 119; exact Calls.quiet_of_same (hrk.out _)))
  go_wp2
  go_end0
  exact fin.out _ (by repeat (first | exact Below.refl _ _ | refine below_drewN ?_ _ | refine Below.drew ?_ | refine Below.trans ?_ (Below.mono (by assumption) ?_) | refine Below.alloc ?_ ?_ _ | refine Below.setCell ?_ ?_ _ | omega | (simp; omega) | simp))
end Go.Proofs.YtglbamalagacgaaGreat

namespace Go.Proofs.YtglbamalagacgaaGreat
open Go.RowKit Go.Shelf
attribute [local go_sem] Oper.semAt_some
theorem set5 (v0 v1 v2 v3 v4 v5 v6 v7 v8 v9 v10 v11 v12 v13 x : Value) : #[v0, v1, v2, v3, v4, v5, v6, v7, v8, v9, v10, v11, v12, v13].setIfInBounds 5 x = #[v0, v1, v2, v3, v4, x, v6, v7, v8, v9, v10, v11, v12, v13] := by simp
theorem RefT.lays {w : World} {y : Nat} {s : TS} {c0 : Int} {vr vc vl v6 : Value} {rl cl ls xs : List Ent} (h : RefT w y s c0 vr vc vl rl cl) (hr : RowU w v6 ls) (hp : Rep ls xs) (hn : ∀ g, v6.ownBlock = some g -> vr.ownBlock = some g ∨ g ∉ refA y vr vc vl) : RefT (w.setCell ⟨y, 5, none⟩ v6) y (s.lays xs) c0 v6 vc vl ls cl := by
 have a1 := (setT h.blk 5 v6).1
 rw [set5] at a1
 have hne : ∀ g, g ≠ y -> (w.setCell ⟨y, 5, none⟩ v6).heap[g]? = w.heap[g]? := fun g hg => Below.heap_setCell _ _ _ _ hg
 have h6y : v6.ownBlock ≠ some y := fun e => by
  rcases hn y e with h1 | h1
  ·exact h.y1 h1
  ·exact h1 (refA_mem.2 (.inl rfl))
 exact ⟨a1, hr.kept fun g hg => hne g fun e => h6y (by rw [hg, e]), hp, h.cr.kept fun g hg => hne g fun e => h.y2 (by rw [hg, e]), h.cep, h.lr.kept fun g hg => hne g fun e => h.y3 (by rw [hg, e]), h6y, h.y2, h.y3, fun g hg hv => by
  rcases hn g hv with h1 | h1
  ·exact h.l1 g hg h1
  ·exact h1 (refA_mem.2 (.inr (.inr (.inr hg)))), h.l2⟩
theorem tryX_at {cs : List Chg} {xs : List Ent} {i : Nat} {x : Chg} (hx : cs[i]? = some x) (ys : List Ent) (h : tryX cs xs 0 = tryX (cs.drop i) ys i) : tryX cs xs 0 = if chgE ys x.a x.l x.n = 0 then tryX (cs.drop (i + 1)) (setE ys x.a x.l x.n) (i + 1) else (ys, i, chgE ys x.a x.l x.n) := by
 obtain ⟨h1, h2⟩ := List.getElem?_eq_some_iff.1 hx
 rw [h, List.drop_eq_getElem_cons h1, h2, tryX_cons]
theorem notes_take {m : Mv} {cs : List Chg} {i : Nat} {x : Chg} (hx : cs[i]? = some x) : m.notes (cs.take (i + 1)) = (m.notes (cs.take i)).note x.a x.l := by
 obtain ⟨h1, h2⟩ := List.getElem?_eq_some_iff.1 hx
 unfold Mv.notes
 rw [List.take_succ_eq_append_getElem h1, List.foldl_append, h2]
 rfl
theorem note_keep (m : Mv) (a l : Int) : (m.note a l).ca = m.ca /\ (m.note a l).cl = m.cl /\ (m.note a l).cp = m.cp /\ (m.note a l).ph = m.ph /\ (m.note a l).k = m.k /\ (m.note a l).ys = m.ys /\ (m.note a l).lg.length <= m.lg.length + 1 := by
 unfold Mv.note
 split
 ·refine ⟨rfl, rfl, rfl, rfl, rfl, rfl, ?_⟩
  show (joinL m.lg a l).length <= _
  unfold joinL
  split
  ·omega
  ·simp
 ·exact ⟨rfl, rfl, rfl, rfl, rfl, rfl, by omega⟩
theorem notes_keep : ∀ (cs : List Chg) (m : Mv), (m.notes cs).ca = m.ca /\ (m.notes cs).cl = m.cl /\ (m.notes cs).cp = m.cp /\ (m.notes cs).ph = m.ph /\ (m.notes cs).k = m.k /\ (m.notes cs).ys = m.ys /\ (m.notes cs).lg.length <= m.lg.length + cs.length
 | [], m => ⟨rfl, rfl, rfl, rfl, rfl, rfl, by simp [Mv.notes]⟩
 | c :: cs, m => by
  obtain ⟨a1, a2, a3, a4, a5, a6, a7⟩ := note_keep m c.a c.l
  obtain ⟨b1, b2, b3, b4, b5, b6, b7⟩ := notes_keep cs (m.note c.a c.l)
  have e : m.notes (c :: cs) = (m.note c.a c.l).notes cs := rfl
  rw [e]
  exact ⟨b1.trans a1, b2.trans a2, b3.trans a3, b4.trans a4, b5.trans a5, b6.trans a6, by rw [List.length_cons]; omega⟩
theorem chg_pfx {xs : List Ent} {a l n : Int} (h : chgE xs a l n = 0) : isPfx a l = true /\ 0 <= n /\ n <= 255 := by
 unfold chgE at h
 split at h
 ·cases h
 split at h
 ·cases h
 ·rename_i h1 h2
  exact ⟨by simpa using h1, by omega, by omega⟩
theorem tryX_pfx : ∀ (cs : List Chg) (xs : List Ent) (i : Nat), (tryX cs xs i).2.2 = 0 -> ∀ x ∈ cs, isPfx x.a x.l = true
 | [], _, _, _ => fun x hx => by cases hx
 | c :: cs, xs, i, h => by
  rw [tryX_cons] at h
  split at h
  ·rename_i h0
   intro x hx
   rcases List.mem_cons.1 hx with rfl | hx
   ·exact (chg_pfx h0).1
   ·exact tryX_pfx cs _ _ h x hx
  ·rename_i h0
   exact absurd h h0
structure RAcc (w : World) (A : List Nat) (wr : World) (y : Nat) (s : TS) (A' : List Nat) : Prop where
 rt : RT wr y s A'
 new : NewF w A A'
 only : Only A w wr
theorem RAcc.turn {w wr W : World} {A A' : List Nat} {y : Nat} {s s' : TS} {v : Value} {r : Ending} (h : RAcc w A wr y s A') (hp : RTurn wr y A' v s' r W) : r = .returned v /\ ∃ A'', RAcc w A W y s' A'' := by
 obtain ⟨A'', h1, h2, h3, h4⟩ := hp
 exact ⟨h1, A'', h2, h.new.trans h3 h.only.size, h.only.trans h4 h.new⟩
theorem RAcc.later {w wr W : World} {A A' : List Nat} {y : Nat} {s : TS} (h : RAcc w A wr y s A') (hB : Below wr.heap.size wr W) : RAcc w A W y s A' := ⟨h.rt.later hB, h.new, h.only.trans (Only.of_below [] hB) fun x hx => by cases hx⟩
theorem RAcc.fin {w W : World} {A A' : List Nat} {y : Nat} {s : TS} {v : Value} (h : RAcc w A W y s A') : RTurn w y A v s (.returned v) W := ⟨A', rfl, h.rt, h.new, h.only⟩
theorem follow_good {s : TS} {m : Mv} {ys : List Ent} {cs : List Chg} (hs : s.Ok) (hm : s.mv = some m) (h1 : Sorted ys) (h2 : ∀ x ∈ ys, okE x) (hl : cs.length <= 16) : Good ((s.lays ys).at (m.notes cs)) := by
 obtain ⟨_, _, _, _, k5, k6, k7⟩ := notes_keep cs m
 obtain ⟨g1, g2⟩ := hs.mv m hm
 have := hs.l16
 refine ⟨h1, h2, hs.k1, hs.k3, fun m' hm' => ?_⟩
 have e : m.notes cs = m' := by injection hm'
 subst e
 rw [k6, k5]
 exact ⟨g1.sorted, g1.ok, g1.k1, g1.k3, by omega⟩
end Go.Proofs.YtglbamalagacgaaGreat

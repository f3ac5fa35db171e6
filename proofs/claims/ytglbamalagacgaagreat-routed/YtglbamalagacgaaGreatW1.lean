import Derived.Test.YtglbamalagacgaaGreatA5
import Derived.Test.YtglbamalagacgaaGreatA9
import Derived.Deep.DeepAppendWide
import Derived.Deep.RegionHeld3
import Derived.BigQuiet
namespace Go.Proofs.YtglbamalagacgaaGreat
open Go.RowKit Go.Shelf
theorem run_appendH {P : Program} (w : World) (t ty e : TypeId) (i : TypeInfo) (z : Value) (sz bytes : Nat) (ht : P.underlying t = some (.slice e)) (hi : P.info? e = some i) (hz : i.zero = some z) (hsize : i.size = sz) (hby : i.bytes = bytes) (hzs : z.cells.size = sz) (hsz : 0 < sz) (hb24 : bytes <= 24)
  (v : Value) (n : Nat) (cs : List Value) (hrow : RowG e sz w v n cs) (a : Addr) (c : Nat) (news : List Value) (hl : news.length = sz) (hnews : ∀ j u, news[j]? = some u -> w.cell? (a.add j) = some u) (h1 : ∀ u ∈ news, u.oneCell' = true) (hn : n <= 9000000000000) :
  ∃ g cap w', (Builtin.append_ #[t, t] ty #[v, .slice (some a) 1 c]).run P w = .ok (.slice (some ⟨g, 0, none⟩) (n + 1) cap) w' /\ RowG e sz w' (.slice (some ⟨g, 0, none⟩) (n + 1) cap) (n + 1) (cs ++ news) /\ w.grownBy w' v.ownBlock /\ (some g = v.ownBlock ∨ (w.heap.size <= g /\ Below w.heap.size w w')) := by
 subst hsize
 subst hby
 have hlen : (cs ++ news).length = (n + 1) * i.size := by rw [List.length_append, hrow.1, hl, Nat.add_mul, Nat.one_mul]
 have hM : (9000000000001 : Nat) <= maxLen := by unfold maxLen; omega
 have hfits : ∀ old, old < n + 1 -> Builtin.nextslicecap (n + 1) old * i.bytes <= 281474976710656 := fun old ho => growslice_fits_wide ho (by
  calc (n + 1 + (n + 1) / 4 + 192) * i.bytes <= 11250000001000 * 24 := Nat.mul_le_mul (by omega) hb24
   _ <= _ := by omega)
 have new : ∀ old (row : Option Nat), RowG e i.size (w.drew.alloc (.cells (cs.toArray ++ news.toArray ++ Builtin.zeroCells z.cells (grownCap w (n + 1) old e - (n + 1))) e)) (.slice (some ⟨w.heap.size, 0, none⟩) (n + 1) (grownCap w (n + 1) old e)) (n + 1) (cs ++ news) ∧
   w.grownBy (w.drew.alloc (.cells (cs.toArray ++ news.toArray ++ Builtin.zeroCells z.cells (grownCap w (n + 1) old e - (n + 1))) e)) row /\ Below w.heap.size w (w.drew.alloc (.cells (cs.toArray ++ news.toArray ++ Builtin.zeroCells z.cells (grownCap w (n + 1) old e - (n + 1))) e)) := by
  intro old row
  have hge := grownCap_ge w (n + 1) old e
  have hbel : Below w.heap.size w (w.drew.alloc (.cells (cs.toArray ++ news.toArray ++ Builtin.zeroCells z.cells (grownCap w (n + 1) old e - (n + 1))) e)) := (Below.refl _ w).drew.alloc (Nat.le_refl _) _
  refine ⟨⟨hlen, .inr ⟨w.heap.size, _, (Builtin.zeroCells z.cells (grownCap w (n + 1) old e - (n + 1))).toList, rfl, ?_, ?_, hge, grownCap_le_maxLen w _ _ _ (by omega)⟩⟩, grownBy_below hbel _, hbel⟩
  ·have : (cs ++ news ++ (Builtin.zeroCells z.cells (grownCap w (n + 1) old e - (n + 1))).toList).toArray = cs.toArray ++ news.toArray ++ Builtin.zeroCells z.cells (grownCap w (n + 1) old e - (n + 1)) := by
    apply Array.ext'; simp
   rw [this]
   exact heap_alloc_new w.drew _
  ·rw [List.length_append, hlen, Array.length_toList, size_zeroCells, hzs, <- Nat.add_mul]
   congr 1
   omega
 rcases hrow.2 with ⟨rfl, rfl⟩ | ⟨g, cap, sp, rfl, hg, hls, hnc, hcm⟩
 ·have hx : cs = [] := List.eq_nil_of_length_eq_zero (by simpa using hrow.1)
  subst hx
  have hr := run_append_nil (P := P) w t ty e i z ht hi hz a 1 c news (by rw [hl, Nat.one_mul]) hnews (by omega) (by omega) (by have := hfits 0 (by omega); rw [nextslicecap_zero (by omega)] at this; simpa using this)
  obtain ⟨h2, h3, h4⟩ := new 0 (Value.ownBlock (.slice none 0 0))
  simp only [Nat.zero_add, List.nil_append, Array.empty_append] at h2 h3 h4
  exact ⟨_, _, _, hr, h2, h3, .inr ⟨Nat.le_refl _, h4⟩⟩
 ·by_cases hroom : n + 1 <= cap
  ·have hcl : (n + 1) * i.size <= cap * i.size := Nat.mul_le_mul_right _ hroom
   rw [List.length_append, hrow.1] at hls
   rw [Nat.add_mul, Nat.one_mul] at hcl
   have hr := run_append_room (P := P) w t ty e i ht hi g n cap _ hg a 1 c news (by rw [hl, Nat.one_mul]) hnews h1 hroom (by rw [List.size_toArray, List.length_append, hrow.1, hl]; omega)
   refine ⟨g, cap, _, hr, ⟨hlen, .inr ⟨g, cap, sp.drop i.size, rfl, ?_, ?_, hroom, hcm⟩⟩, grownBy_setRow' g _, .inl rfl⟩
   ·have e1 : List.take (n * i.size) (cs ++ sp).toArray.toList ++ news ++ List.drop (n * i.size + news.length) (cs ++ sp).toArray.toList = cs ++ news ++ sp.drop i.size := by
     show List.take (n * i.size) (cs ++ sp) ++ news ++ List.drop (n * i.size + news.length) (cs ++ sp) = _
     rw [List.take_left' hrow.1, <- hrow.1, drop_past, hl]
    rw [e1]
    exact setRow_heap w g _ _ _ _ hg
   ·rw [List.length_append, hlen, List.length_drop, Nat.add_mul, Nat.one_mul]
    omega
  ·have hr := run_append_grow (P := P) w t ty e i z ht hi hz ⟨g, 0, none⟩ n cap cs hrow.1 (fun j v hj => by
     rw [Addr.add_lit]
     have : j < cs.length := (List.getElem?_eq_some_iff.1 hj).1
     simp only [World.cell?, hg]
     simp [List.getElem?_append_left this, hj]) a 1 c news (by rw [hl, Nat.one_mul]) hnews (by omega) (by omega) (hfits cap (by omega))
   obtain ⟨h2, h3, h4⟩ := new cap (Value.ownBlock (.slice (some ⟨g, 0, none⟩) n cap))
   exact ⟨_, _, _, hr, h2, h3, .inr ⟨Nat.le_refl _, h4⟩⟩
theorem append_one {w : World} (t ty e : TypeId) (i : TypeInfo) (z : Value) (sz bytes : Nat) (ht : Tryz.prog.underlying t = some (.slice e)) (hi : Tryz.prog.info? e = some i) (hz : i.zero = some z) (hsize : i.size = sz) (hby : i.bytes = bytes) (hzs : z.cells.size = sz) (hsz : 0 < sz) (hb24 : bytes <= 24) (v : Value) (n : Nat) (cs news : List Value) (hl : news.length = sz) (h1 : ∀ u ∈ news, u.oneCell' = true) (hrow : RowG e sz w v n cs) (hn : n <= 9000000000000) :
  ∃ g cap w', (Builtin.append_ #[t, t] ty #[v, .slice (some ⟨w.heap.size, 0, none⟩) 1 1]).run Tryz.prog (w.alloc (.cells news.toArray e)) = .ok (.slice (some ⟨g, 0, none⟩) (n + 1) cap) w' ∧
   RowG e sz w' (.slice (some ⟨g, 0, none⟩) (n + 1) cap) (n + 1) (cs ++ news) /\ (∀ k, k < w.heap.size -> v.ownBlock ≠ some k -> w'.heap[k]? = w.heap[k]?) /\ w.heap.size <= w'.heap.size /\ Only v.ownBlock.toList w w' /\ (some g = v.ownBlock ∨ (w.heap.size < g /\ Below w.heap.size w w')) := by
 have hA : Below w.heap.size w (w.alloc (.cells news.toArray e)) := ((Below.refl _ w).alloc (Nat.le_refl _) _)
 obtain ⟨g, cap, w', r1, r2, r3, r4⟩ := run_appendH (P := Tryz.prog) (w.alloc (.cells news.toArray e)) t ty e i z sz bytes ht hi hz hsize hby hzs hsz hb24 v n cs (hrow.kept fun g hg => hA.block g (hrow.lt g hg)) ⟨w.heap.size, 0, none⟩ 1 news hl
  (fun j u hj => by
   rw [Addr.add_lit]
   simp only [World.cell?]
   rw [World.alloc_heap_new]
   simpa using hj) h1 hn
 have hz2 := r3.size
 rw [World.size_alloc] at hz2
 have hk : ∀ k, k < w.heap.size -> v.ownBlock ≠ some k -> w'.heap[k]? = w.heap[k]? := fun k hk hv => (r3.block k (by simp; omega) (fun e => hv e.symm)).trans (hA.block k hk)
 refine ⟨g, cap, w', r1, r2, hk, by omega, ⟨r3.os.trans hA.os, r3.tape.trans hA.tape, r3.output.trans hA.output, by omega, fun k h2 h3 => hk k h2 fun e => h3 (by simp [e])⟩, r4.imp id fun ⟨h2, h3⟩ => ?_⟩
 rw [World.size_alloc] at h2 h3
 exact ⟨by omega, hA.trans (h3.mono (by omega))⟩
def OutM (w : World) (v : Value) (m : Int) : Prop := v = .slice none 0 0 ∨ ∃ g n cap cs, v = .slice (some ⟨g, 0, none⟩) n cap /\ n <= 1000 /\ w.heap[g]? = some (.cells cs 90 (0, 0)) /\ ∀ j, j < n * 3 -> cs[j]? = some (.int .i64 m)
def InM (w : World) (v : Value) (m : Int) : Prop := ∃ g n cap cs, v = .slice (some ⟨g, 0, none⟩) n cap /\ n <= 10000000000000 /\ w.heap[g]? = some (.cells cs 103 (0, 0)) /\ ∀ j, j < n -> cs[j * 3]? = some (.int .i64 m) /\ cs[j * 3 + 1]? = some (.int .i64 8) /\ cs[j * 3 + 2]? = some (.int .i64 0)
theorem OutM.kept {w w' : World} {v : Value} {m : Int} (h : OutM w v m) (hk : ∀ g, v.ownBlock = some g -> w'.heap[g]? = w.heap[g]?) : OutM w' v m := by
 rcases h with h | ⟨g, n, cap, cs, rfl, hn, hg, hc⟩
 ·exact .inl h
 ·exact .inr ⟨g, n, cap, cs, rfl, hn, (hk g rfl).trans hg, hc⟩
theorem InM.kept {w w' : World} {v : Value} {m : Int} (h : InM w v m) (hk : ∀ g, v.ownBlock = some g -> w'.heap[g]? = w.heap[g]?) : InM w' v m := by
 obtain ⟨g, n, cap, cs, rfl, hn, hg, hc⟩ := h
 exact ⟨g, n, cap, cs, rfl, hn, (hk g rfl).trans hg, hc⟩
theorem tyNe {w : World} {g g' : Nat} {cs cs' : Array Value} {t t' : TypeId} (h : w.heap[g]? = some (.cells cs t (0, 0))) (h' : w.heap[g']? = some (.cells cs' t' (0, 0))) (hT : t ≠ t') : g ≠ g' := by
 rintro rfl
 rw [h] at h'
 cases h'
 exact hT rfl
def TyB (w : World) (v : Value) (e : TypeId) : Prop := ∀ g, v.ownBlock = some g -> ∃ c, w.heap[g]? = some (.cells c e (0, 0))
theorem RowG.ty {e : TypeId} {sz : Nat} {w : World} {v : Value} {n : Nat} {cs : List Value} (h : RowG e sz w v n cs) : TyB w v e := fun g hg => by
 rcases h.2 with ⟨rfl, _⟩ | ⟨g', cap, sp, rfl, hh, _⟩
 ·cases hg
 ·cases hg; exact ⟨_, hh⟩
theorem OutM.ty {w : World} {v : Value} {m : Int} (h : OutM w v m) : TyB w v 90 := fun g hg => by
 rcases h with rfl | ⟨g', n, cap, cs, rfl, hn, hh, hc⟩
 ·cases hg
 ·cases hg; exact ⟨_, hh⟩
theorem InM.ty {w : World} {v : Value} {m : Int} (h : InM w v m) : TyB w v 103 := fun g hg => by
 obtain ⟨g', n, cap, cs, rfl, hn, hh, hc⟩ := h
 cases hg; exact ⟨_, hh⟩
theorem TyB.ne {w : World} {v u : Value} {e e' : TypeId} (h : TyB w v e) (h' : TyB w u e') (hT : e ≠ e') : ∀ g, v.ownBlock = some g -> u.ownBlock ≠ some g := fun g hg hu => by
 obtain ⟨c, hc⟩ := h g hg
 obtain ⟨c', hc'⟩ := h' g hu
 exact tyNe hc hc' hT rfl
theorem setW {w : World} {t : Nat} {cs : Array Value} {ty : TypeId} (hb : w.heap[t]? = some (.cells cs ty (0, 0))) (o : Nat) (v : Value) : (w.setCell ⟨t, o, none⟩ v).heap[t]? = some (.cells (cs.setIfInBounds o v) ty (0, 0)) := by
 rw [setCell_eq_setRow w t o cs ty (0, 0) v hb]; exact setRow_heap w t _ _ _ _ hb
end Go.Proofs.YtglbamalagacgaaGreat

namespace Go.Proofs.YtglbamalagacgaaGreat
open Go.RowKit Go.Shelf
structure WdT (w : World) (wb : Nat) (vs vo vm vi vt : Value) (os : List Value) (ms : List Int) (is : List Value) (ts : List Int) (last : Int) (F : List Nat) : Prop where
 blk : w.heap[wb]? = some (.cells #[vs, vo, vm, vi, vt, .int .i64 last] 75 (0, 0))
 ro : RowG 61 1 w vo os.length os
 rm : RowG 3 1 w vm ms.length (ms.map fun m => .int .i64 m)
 ri : RowG 33 1 w vi is.length is
 rt : RowG 3 1 w vt ts.length (ts.map fun m => .int .i64 m)
 mo : ∀ (i : Nat) v m, os[i]? = some v -> ms[i]? = some m -> OutM w v m
 mi : ∀ (i : Nat) v m, is[i]? = some v -> ts[i]? = some m -> InM w v m
 to : ∀ v ∈ os, TyB w v 90
 ti : ∀ v ∈ is, TyB w v 103
 ne : ∀ g, vm.ownBlock = some g -> vt.ownBlock ≠ some g
 fb : wb ∈ F
 fo : ∀ g, vo.ownBlock = some g -> g ∈ F
 fm : ∀ g, vm.ownBlock = some g -> g ∈ F
 fi : ∀ g, vi.ownBlock = some g -> g ∈ F
 ft : ∀ g, vt.ownBlock = some g -> g ∈ F
 ko : ∀ v ∈ os, ∀ g, v.ownBlock = some g -> g ∈ F
 ki : ∀ v ∈ is, ∀ g, v.ownBlock = some g -> g ∈ F
 lt : ∀ k ∈ F, k < w.heap.size
section
variable {w W : World} {wb : Nat} {vs vo vm vi vt : Value} {os : List Value} {ms : List Int} {is : List Value} {ts : List Int} {last : Int} {F : List Nat}
theorem TyB.kept {v : Value} {e : TypeId} (h : TyB w v e) (hk : ∀ g, v.ownBlock = some g -> W.heap[g]? = w.heap[g]?) : TyB W v e := fun g hg => by
 obtain ⟨c, hc⟩ := h g hg
 exact ⟨c, (hk g hg).trans hc⟩
theorem WdT.kept (h : WdT w wb vs vo vm vi vt os ms is ts last F) (hz : w.heap.size <= W.heap.size) (hk : ∀ k ∈ F, W.heap[k]? = w.heap[k]?) : WdT W wb vs vo vm vi vt os ms is ts last F :=
 ⟨(hk _ h.fb).trans h.blk, h.ro.kept fun g hg => hk g (h.fo g hg), h.rm.kept fun g hg => hk g (h.fm g hg), h.ri.kept fun g hg => hk g (h.fi g hg), h.rt.kept fun g hg => hk g (h.ft g hg),
  fun i v m h1 h2 => (h.mo i v m h1 h2).kept fun g hg => hk g (h.ko v (List.mem_of_getElem? h1) g hg), fun i v m h1 h2 => (h.mi i v m h1 h2).kept fun g hg => hk g (h.ki v (List.mem_of_getElem? h1) g hg),
  fun v hv => (h.to v hv).kept fun g hg => hk g (h.ko v hv g hg), fun v hv => (h.ti v hv).kept fun g hg => hk g (h.ki v hv g hg), h.ne, h.fb, h.fo, h.fm, h.fi, h.ft, h.ko, h.ki, fun k hk' => Nat.lt_of_lt_of_le (h.lt k hk') hz⟩
theorem WdT.later (h : WdT w wb vs vo vm vi vt os ms is ts last F) (hB : Below w.heap.size w W) : WdT W wb vs vo vm vi vt os ms is ts last F := h.kept hB.size fun k hk => hB.block k (h.lt k hk)
theorem WdT.wide {G : List Nat} (h : WdT w wb vs vo vm vi vt os ms is ts last F) (hG : ∀ k ∈ F, k ∈ G) (hl : ∀ k ∈ G, k < w.heap.size) : WdT w wb vs vo vm vi vt os ms is ts last G :=
 ⟨h.blk, h.ro, h.rm, h.ri, h.rt, h.mo, h.mi, h.to, h.ti, h.ne, hG _ h.fb, fun g hg => hG _ (h.fo g hg), fun g hg => hG _ (h.fm g hg), fun g hg => hG _ (h.fi g hg), fun g hg => hG _ (h.ft g hg), fun v hv g hg => hG _ (h.ko v hv g hg), fun v hv g hg => hG _ (h.ki v hv g hg), hl⟩
theorem WdT.wlt (h : WdT w wb vs vo vm vi vt os ms is ts last F) : wb < w.heap.size := h.lt _ h.fb
theorem WdT.fz (h : WdT w wb vs vo vm vi vt os ms is ts last F) (i : Nat) : w.frozen? ⟨wb, i, none⟩ = false := by simp [World.frozen?, h.blk]
theorem WdT.p0 (h : WdT w wb vs vo vm vi vt os ms is ts last F) : w.cell? ⟨wb, 0, none⟩ = some vs := by simp only [World.cell?, h.blk]; rfl
theorem WdT.p1 (h : WdT w wb vs vo vm vi vt os ms is ts last F) : w.cell? ⟨wb, 1, none⟩ = some vo := by simp only [World.cell?, h.blk]; rfl
theorem WdT.p2 (h : WdT w wb vs vo vm vi vt os ms is ts last F) : w.cell? ⟨wb, 2, none⟩ = some vm := by simp only [World.cell?, h.blk]; rfl
theorem WdT.p3 (h : WdT w wb vs vo vm vi vt os ms is ts last F) : w.cell? ⟨wb, 3, none⟩ = some vi := by simp only [World.cell?, h.blk]; rfl
theorem WdT.p4 (h : WdT w wb vs vo vm vi vt os ms is ts last F) : w.cell? ⟨wb, 4, none⟩ = some vt := by simp only [World.cell?, h.blk]; rfl
theorem WdT.p5 (h : WdT w wb vs vo vm vi vt os ms is ts last F) : w.cell? ⟨wb, 5, none⟩ = some (.int .i64 last) := by simp only [World.cell?, h.blk]; rfl
theorem WdT.apart (h : WdT w wb vs vo vm vi vt os ms is ts last F) : vo.ownBlock ≠ some wb /\ vm.ownBlock ≠ some wb /\ vi.ownBlock ≠ some wb /\ vt.ownBlock ≠ some wb /\ (∀ v ∈ os, v.ownBlock ≠ some wb) /\ (∀ v ∈ is, v.ownBlock ≠ some wb) := by
 have key : ∀ (v : Value) (e : TypeId), TyB w v e -> e ≠ 75 -> v.ownBlock ≠ some wb := fun v e hv hT he => by
  obtain ⟨c, hc⟩ := hv wb he
  exact tyNe hc h.blk hT rfl
 exact ⟨key _ _ h.ro.ty (by decide), key _ _ h.rm.ty (by decide), key _ _ h.ri.ty (by decide), key _ _ h.rt.ty (by decide), fun v hv => key _ _ (h.to v hv) (by decide), fun v hv => key _ _ (h.ti v hv) (by decide)⟩
theorem WdT.turn {vo' vm' vi' vt' : Value} {os' : List Value} {ms' : List Int} {is' : List Value} {ts' : List Int} {last' : Int} {G : List Nat} {u u' : Value} {o : Nat} (h : WdT w wb vs vo vm vi vt os ms is ts last F)
  (hk : ∀ k, k < w.heap.size -> u.ownBlock ≠ some k -> W.heap[k]? = w.heap[k]?) (hu : u.ownBlock ≠ some wb)
  (hb : #[vs, vo, vm, vi, vt, .int .i64 last].setIfInBounds o u' = #[vs, vo', vm', vi', vt', .int .i64 last'])
  (hG : ∀ k ∈ F, k ∈ G) (hGl : ∀ k ∈ G, k < W.heap.size)
  (ho : (vo' = vo /\ os' = os /\ ∀ g, vo.ownBlock = some g -> u.ownBlock ≠ some g) ∨ (vo' = u' /\ RowG 61 1 W u' os'.length os'))
  (hm : (vm' = vm /\ ms' = ms /\ ∀ g, vm.ownBlock = some g -> u.ownBlock ≠ some g) ∨ (vm' = u' /\ RowG 3 1 W u' ms'.length (ms'.map fun m => .int .i64 m)))
  (hi : (vi' = vi /\ is' = is /\ ∀ g, vi.ownBlock = some g -> u.ownBlock ≠ some g) ∨ (vi' = u' /\ RowG 33 1 W u' is'.length is'))
  (ht : (vt' = vt /\ ts' = ts /\ ∀ g, vt.ownBlock = some g -> u.ownBlock ≠ some g) ∨ (vt' = u' /\ RowG 3 1 W u' ts'.length (ts'.map fun m => .int .i64 m)))
  (huF : ∀ g, u'.ownBlock = some g -> g ∈ G)
  (hmo : ∀ (i : Nat) v m, os'[i]? = some v -> ms'[i]? = some m -> OutM W v m) (hmi : ∀ (i : Nat) v m, is'[i]? = some v -> ts'[i]? = some m -> InM W v m)
  (hto : ∀ v ∈ os', TyB W v 90 /\ ∀ g, v.ownBlock = some g -> g ∈ G) (hti : ∀ v ∈ is', TyB W v 103 /\ ∀ g, v.ownBlock = some g -> g ∈ G)
  (hne : ∀ g, vm'.ownBlock = some g -> vt'.ownBlock ≠ some g) :
  WdT (W.setCell ⟨wb, o, none⟩ u') wb vs vo' vm' vi' vt' os' ms' is' ts' last' G := by
 have hbw : W.heap[wb]? = some (.cells #[vs, vo, vm, vi, vt, .int .i64 last] 75 (0, 0)) := (hk wb h.wlt hu).trans h.blk
 have hb2 := setW hbw o u'
 rw [hb] at hb2
 obtain ⟨n1, n2, n3, n4, n5, n6⟩ := h.apart
 have hs : ∀ k, k ≠ wb -> (W.setCell ⟨wb, o, none⟩ u').heap[k]? = W.heap[k]? := fun k hk => Below.heap_setCell _ _ _ _ hk
 have hsz : (W.setCell ⟨wb, o, none⟩ u').heap.size = W.heap.size := by simp [World.setCell]
 have hnt : ∀ (v : Value) (e : TypeId), TyB W v e -> e ≠ 75 -> ∀ g, v.ownBlock = some g -> (W.setCell ⟨wb, o, none⟩ u').heap[g]? = W.heap[g]? := fun v e hv hT g hg => by
  obtain ⟨c, hc⟩ := hv g hg
  exact hs g (tyNe hc hbw hT)
 have key : ∀ {e sz n cs} {v : Value}, RowG e sz w v n cs -> e ≠ 75 -> (∀ g, v.ownBlock = some g -> u.ownBlock ≠ some g) -> RowG e sz W v n cs := fun hr _ hv => hr.kept fun g hg => hk g (hr.lt g hg) (hv g hg)
 have ro : RowG 61 1 W vo' os'.length os' := by
  rcases ho with ⟨e1, e2, e3⟩ | ⟨e1, e2⟩
  ·rw [e1, e2]; exact key h.ro (by decide) e3
  ·rw [e1]; exact e2
 have rm : RowG 3 1 W vm' ms'.length (ms'.map fun m => .int .i64 m) := by
  rcases hm with ⟨e1, e2, e3⟩ | ⟨e1, e2⟩
  ·rw [e1, e2]; exact key h.rm (by decide) e3
  ·rw [e1]; exact e2
 have ri : RowG 33 1 W vi' is'.length is' := by
  rcases hi with ⟨e1, e2, e3⟩ | ⟨e1, e2⟩
  ·rw [e1, e2]; exact key h.ri (by decide) e3
  ·rw [e1]; exact e2
 have rt : RowG 3 1 W vt' ts'.length (ts'.map fun m => .int .i64 m) := by
  rcases ht with ⟨e1, e2, e3⟩ | ⟨e1, e2⟩
  ·rw [e1, e2]; exact key h.rt (by decide) e3
  ·rw [e1]; exact e2
 refine ⟨hb2, ro.kept (hnt _ _ ro.ty (by decide)), rm.kept (hnt _ _ rm.ty (by decide)), ri.kept (hnt _ _ ri.ty (by decide)), rt.kept (hnt _ _ rt.ty (by decide)), fun i v m h1 h2 => (hmo i v m h1 h2).kept (hnt _ _ (hmo i v m h1 h2).ty (by decide)), fun i v m h1 h2 => (hmi i v m h1 h2).kept (hnt _ _ (hmi i v m h1 h2).ty (by decide)), fun v hv => (hto v hv).1.kept (hnt _ _ (hto v hv).1 (by decide)), fun v hv => (hti v hv).1.kept (hnt _ _ (hti v hv).1 (by decide)), hne, hG _ h.fb, ?_, ?_, ?_, ?_, fun v hv => (hto v hv).2, fun v hv => (hti v hv).2, by rw [hsz]; exact hGl⟩
 ·rcases ho with ⟨e1, _⟩ | ⟨e1, _⟩
  ·rw [e1]; exact fun g hg => hG _ (h.fo g hg)
  ·rw [e1]; exact huF
 ·rcases hm with ⟨e1, _⟩ | ⟨e1, _⟩
  ·rw [e1]; exact fun g hg => hG _ (h.fm g hg)
  ·rw [e1]; exact huF
 ·rcases hi with ⟨e1, _⟩ | ⟨e1, _⟩
  ·rw [e1]; exact fun g hg => hG _ (h.fi g hg)
  ·rw [e1]; exact huF
 ·rcases ht with ⟨e1, _⟩ | ⟨e1, _⟩
  ·rw [e1]; exact fun g hg => hG _ (h.ft g hg)
  ·rw [e1]; exact huF
end
end Go.Proofs.YtglbamalagacgaaGreat

namespace Go.Proofs.YtglbamalagacgaaGreat
open Go.RowKit Go.Shelf
section
variable {w W : World} {wb : Nat} {vs vo vm vi vt : Value} {os : List Value} {ms : List Int} {is : List Value} {ts : List Int} {last : Int} {F : List Nat}
theorem TyB.stays {v u : Value} {e eu : TypeId} (h : TyB w v e) (hu : TyB w u eu) (hT : e ≠ eu) (hk : ∀ k, k < w.heap.size -> u.ownBlock ≠ some k -> W.heap[k]? = w.heap[k]?) : ∀ g, v.ownBlock = some g -> W.heap[g]? = w.heap[g]? := fun g hg => by
 obtain ⟨c, hc⟩ := h g hg
 exact hk g (Array.getElem?_eq_some_iff.1 hc).1 (h.ne hu hT g hg)
theorem WdT.marked (h : WdT w wb vs vo vm vi vt os ms is ts last F) (l : Int) : WdT (w.setCell ⟨wb, 5, none⟩ (.int .i64 l)) wb vs vo vm vi vt os ms is ts l F :=
 h.turn (W := w) (u := .slice none 0 0) (u' := .int .i64 l) (o := 5) (fun _ _ _ => rfl) (fun e => by cases e) (by simp) (fun _ h => h) h.lt
  (.inl ⟨rfl, rfl, fun _ _ e => by cases e⟩) (.inl ⟨rfl, rfl, fun _ _ e => by cases e⟩) (.inl ⟨rfl, rfl, fun _ _ e => by cases e⟩) (.inl ⟨rfl, rfl, fun _ _ e => by cases e⟩) (fun g e => by cases e) h.mo h.mi (fun v hv => ⟨h.to v hv, h.ko v hv⟩) (fun v hv => ⟨h.ti v hv, h.ki v hv⟩) h.ne
theorem mem_own {v : Value} {F : List Nat} : ∀ g, v.ownBlock = some g -> g ∈ F ++ v.ownBlock.toList := fun g hg => by simp [hg]
theorem lt_own {F : List Nat} {u' : Value} {e : TypeId} {sz n : Nat} {cs : List Value} (hz : w.heap.size <= W.heap.size) (hF : ∀ k ∈ F, k < w.heap.size) (hr : RowG e sz W u' n cs) : ∀ k ∈ F ++ u'.ownBlock.toList, k < W.heap.size := fun k hk => by
 rcases List.mem_append.1 hk with h | h
 ·have := hF k h; omega
 ·exact hr.lt k (by simpa using h)
theorem WdT.outs {l vo' : Value} (h : WdT w wb vs vo vm vi vt os ms is ts last F) (hk : ∀ k, k < w.heap.size -> vo.ownBlock ≠ some k -> W.heap[k]? = w.heap[k]?) (hz : w.heap.size <= W.heap.size) (hr : RowG 61 1 W vo' (os.length + 1) (os ++ [l])) (hl : ms.length <= os.length) (hT : TyB w l 90) (hlF : ∀ g, l.ownBlock = some g -> g ∈ F) : WdT (W.setCell ⟨wb, 1, none⟩ vo') wb vs vo' vm vi vt (os ++ [l]) ms is ts last (F ++ vo'.ownBlock.toList) := by
 have hty := h.ro.ty
 refine h.turn (u := vo) (u' := vo') (o := 1) hk h.apart.1 (by simp) (fun k hk => List.mem_append.2 (.inl hk)) (lt_own hz h.lt hr) (.inr ⟨rfl, by simpa using hr⟩)
  (.inl ⟨rfl, rfl, h.rm.ty.ne hty (by decide)⟩) (.inl ⟨rfl, rfl, h.ri.ty.ne hty (by decide)⟩) (.inl ⟨rfl, rfl, h.rt.ty.ne hty (by decide)⟩) mem_own ?_ ?_ ?_ ?_ h.ne
 ·intro i v m h1 h2
  have hi : i < ms.length := (List.getElem?_eq_some_iff.1 h2).1
  rw [List.getElem?_append_left (by omega)] at h1
  have := h.mo i v m h1 h2
  exact this.kept (this.ty.stays hty (by decide) hk)
 ·intro i v m h1 h2
  have := h.mi i v m h1 h2
  exact this.kept (this.ty.stays hty (by decide) hk)
 ·intro v hv
  rcases List.mem_append.1 hv with h1 | h1
  ·exact ⟨(h.to v h1).kept ((h.to v h1).stays hty (by decide) hk), fun g hg => List.mem_append.2 (.inl (h.ko v h1 g hg))⟩
  ·have : v = l := by simpa using h1
   subst this
   exact ⟨hT.kept (hT.stays hty (by decide) hk), fun g hg => List.mem_append.2 (.inl (hlF g hg))⟩
 ·intro v hv
  exact ⟨(h.ti v hv).kept ((h.ti v hv).stays hty (by decide) hk), fun g hg => List.mem_append.2 (.inl (h.ki v hv g hg))⟩
theorem WdT.marks {m : Int} {vm' : Value} (h : WdT w wb vs vo vm vi vt os ms is ts last F) (hk : ∀ k, k < w.heap.size -> vm.ownBlock ≠ some k -> W.heap[k]? = w.heap[k]?) (hz : w.heap.size <= W.heap.size) (hr : RowG 3 1 W vm' (ms.length + 1) ((ms.map fun m => .int .i64 m) ++ [.int .i64 m])) (hn : ∀ g, vm'.ownBlock = some g -> vm.ownBlock = some g ∨ w.heap.size <= g) (hO : ∀ v, os[ms.length]? = some v -> OutM w v m) : WdT (W.setCell ⟨wb, 2, none⟩ vm') wb vs vo vm' vi vt os (ms ++ [m]) is ts last (F ++ vm'.ownBlock.toList) := by
 have hty := h.rm.ty
 refine h.turn (u := vm) (u' := vm') (o := 2) hk h.apart.2.1 (by simp) (fun k hk => List.mem_append.2 (.inl hk)) (lt_own hz h.lt hr) (.inl ⟨rfl, rfl, h.ro.ty.ne hty (by decide)⟩) (.inr ⟨rfl, by simpa using hr⟩)
  (.inl ⟨rfl, rfl, h.ri.ty.ne hty (by decide)⟩) (.inl ⟨rfl, rfl, fun g hg e => h.ne g e hg⟩) mem_own ?_ ?_ ?_ ?_ ?_
 ·intro i v n h1 h2
  have hO2 : OutM w v n := by
   rcases Nat.lt_or_ge i ms.length with h3 | h3
   ·rw [List.getElem?_append_left h3] at h2
    exact h.mo i v n h1 h2
   ·have hi : i = ms.length := by have := (List.getElem?_eq_some_iff.1 h2).1; simp at this; omega
    subst hi
    have : m = n := by simpa using h2
    subst this
    exact hO v h1
  exact hO2.kept (hO2.ty.stays hty (by decide) hk)
 ·intro i v n h1 h2
  have := h.mi i v n h1 h2
  exact this.kept (this.ty.stays hty (by decide) hk)
 ·intro v hv
  exact ⟨(h.to v hv).kept ((h.to v hv).stays hty (by decide) hk), fun g hg => List.mem_append.2 (.inl (h.ko v hv g hg))⟩
 ·intro v hv
  exact ⟨(h.ti v hv).kept ((h.ti v hv).stays hty (by decide) hk), fun g hg => List.mem_append.2 (.inl (h.ki v hv g hg))⟩
 ·intro g hg e
  rcases hn g hg with h1 | h1
  ·exact h.ne g h1 e
  ·have := h.rt.lt g e; omega
theorem WdT.ins {l vi' : Value} (h : WdT w wb vs vo vm vi vt os ms is ts last F) (hk : ∀ k, k < w.heap.size -> vi.ownBlock ≠ some k -> W.heap[k]? = w.heap[k]?) (hz : w.heap.size <= W.heap.size) (hr : RowG 33 1 W vi' (is.length + 1) (is ++ [l])) (hl : ts.length <= is.length) (hT : TyB w l 103) (hlF : ∀ g, l.ownBlock = some g -> g ∈ F) : WdT (W.setCell ⟨wb, 3, none⟩ vi') wb vs vo vm vi' vt os ms (is ++ [l]) ts last (F ++ vi'.ownBlock.toList) := by
 have hty := h.ri.ty
 refine h.turn (u := vi) (u' := vi') (o := 3) hk h.apart.2.2.1 (by simp) (fun k hk => List.mem_append.2 (.inl hk)) (lt_own hz h.lt hr) (.inl ⟨rfl, rfl, h.ro.ty.ne hty (by decide)⟩)
  (.inl ⟨rfl, rfl, h.rm.ty.ne hty (by decide)⟩) (.inr ⟨rfl, by simpa using hr⟩) (.inl ⟨rfl, rfl, h.rt.ty.ne hty (by decide)⟩) mem_own ?_ ?_ ?_ ?_ h.ne
 ·intro i v m h1 h2
  have := h.mo i v m h1 h2
  exact this.kept (this.ty.stays hty (by decide) hk)
 ·intro i v m h1 h2
  have hi : i < ts.length := (List.getElem?_eq_some_iff.1 h2).1
  rw [List.getElem?_append_left (by omega)] at h1
  have := h.mi i v m h1 h2
  exact this.kept (this.ty.stays hty (by decide) hk)
 ·intro v hv
  exact ⟨(h.to v hv).kept ((h.to v hv).stays hty (by decide) hk), fun g hg => List.mem_append.2 (.inl (h.ko v hv g hg))⟩
 ·intro v hv
  rcases List.mem_append.1 hv with h1 | h1
  ·exact ⟨(h.ti v h1).kept ((h.ti v h1).stays hty (by decide) hk), fun g hg => List.mem_append.2 (.inl (h.ki v h1 g hg))⟩
  ·have : v = l := by simpa using h1
   subst this
   exact ⟨hT.kept (hT.stays hty (by decide) hk), fun g hg => List.mem_append.2 (.inl (hlF g hg))⟩
theorem WdT.turns {m : Int} {vt' : Value} (h : WdT w wb vs vo vm vi vt os ms is ts last F) (hk : ∀ k, k < w.heap.size -> vt.ownBlock ≠ some k -> W.heap[k]? = w.heap[k]?) (hz : w.heap.size <= W.heap.size) (hr : RowG 3 1 W vt' (ts.length + 1) ((ts.map fun m => .int .i64 m) ++ [.int .i64 m])) (hn : ∀ g, vt'.ownBlock = some g -> vt.ownBlock = some g ∨ w.heap.size <= g) (hO : ∀ v, is[ts.length]? = some v -> InM w v m) : WdT (W.setCell ⟨wb, 4, none⟩ vt') wb vs vo vm vi vt' os ms is (ts ++ [m]) last (F ++ vt'.ownBlock.toList) := by
 have hty := h.rt.ty
 refine h.turn (u := vt) (u' := vt') (o := 4) hk h.apart.2.2.2.1 (by simp) (fun k hk => List.mem_append.2 (.inl hk)) (lt_own hz h.lt hr) (.inl ⟨rfl, rfl, h.ro.ty.ne hty (by decide)⟩)
  (.inl ⟨rfl, rfl, h.ne⟩) (.inl ⟨rfl, rfl, h.ri.ty.ne hty (by decide)⟩) (.inr ⟨rfl, by simpa using hr⟩) mem_own ?_ ?_ ?_ ?_ ?_
 ·intro i v n h1 h2
  have := h.mo i v n h1 h2
  exact this.kept (this.ty.stays hty (by decide) hk)
 ·intro i v n h1 h2
  have hO2 : InM w v n := by
   rcases Nat.lt_or_ge i ts.length with h3 | h3
   ·rw [List.getElem?_append_left h3] at h2
    exact h.mi i v n h1 h2
   ·have hi : i = ts.length := by have := (List.getElem?_eq_some_iff.1 h2).1; simp at this; omega
    subst hi
    have : m = n := by simpa using h2
    subst this
    exact hO v h1
  exact hO2.kept (hO2.ty.stays hty (by decide) hk)
 ·intro v hv
  exact ⟨(h.to v hv).kept ((h.to v hv).stays hty (by decide) hk), fun g hg => List.mem_append.2 (.inl (h.ko v hv g hg))⟩
 ·intro v hv
  exact ⟨(h.ti v hv).kept ((h.ti v hv).stays hty (by decide) hk), fun g hg => List.mem_append.2 (.inl (h.ki v hv g hg))⟩
 ·intro g hg e
  rcases hn g e with h1 | h1
  ·exact h.ne g hg h1
  ·have := h.rm.lt g hg; omega
end
end Go.Proofs.YtglbamalagacgaaGreat

namespace Go.Proofs.YtglbamalagacgaaGreat
open Go.RowKit Go.Shelf
attribute [local go_sem] Oper.semAt_some
theorem rowG_at {e : TypeId} {w : World} {v : Value} {n i : Nat} {cs : List Value} {u : Value} (h : RowG e 1 w v n cs) (hi : cs[i]? = some u) : ∃ g cap, v = .slice (some ⟨g, 0, none⟩) n cap /\ g < w.heap.size /\ w.cell? ⟨g, i, none⟩ = some u := by
 have hl : i < cs.length := (List.getElem?_eq_some_iff.1 hi).1
 rcases h.2 with ⟨_, rfl⟩ | ⟨g, cap, sp, rfl, hg, _⟩
 ·have := h.1; omega
 ·exact ⟨g, cap, rfl, (Array.getElem?_eq_some_iff.1 hg).1, by simp [World.cell?, hg, List.getElem?_append_left hl, hi]⟩
section
variable {w : World} {wb : Nat} {vs vo vm vi vt : Value} {os : List Value} {ms : List Int} {is : List Value} {ts : List Int} {last : Int} {F : List Nat}
set_option maxHeartbeats 400000 in
theorem mark_any (h : WdT w wb vs vo vm vi vt os ms is ts last F) :
  Calls Tryz.prog 133 #[ptrV wb] w fun r w' => r = .returned (.int .i64 (wrap64 (last - 1))) /\ w' = w.setCell ⟨wb, 5, none⟩ (.int .i64 (wrap64 (last - 1))) := by
 have yl := h.wlt
 have e5 := h.p5
 have ef := h.fz
 have e6 := (h.marked (wrap64 (last - 1))).p5
 have z6 : wb < (w.setCell ⟨wb, 5, none⟩ (.int .i64 (wrap64 (last - 1)))).heap.size := by simp [World.setCell]; exact yl
 clear h
 go_enter Tryz.func133, Tryz.ntmps133
 go_wp2
 go_ret
 exact ⟨rfl, rfl⟩
set_option maxRecDepth 8000 in
set_option maxHeartbeats 4000000 in
theorem kept_any (h : WdT w wb vs vo vm vi vt os ms is ts last F) (h1 : os.length = ms.length) (h2 : is.length = ts.length) (b1 : os.length <= 9000000000000) (b2 : is.length <= 9000000000000) :
  Calls Tryz.prog 34 #[ptrV wb] w fun r w' => r = .returned (.bool true) /\ Below w.heap.size w w' := by
 have HW := hide (fun W (hW : Below w.heap.size w W) => h.later hW)
 obtain ⟨oa, oc, hvo⟩ := h.ro.shape
 obtain ⟨ia, ic, hvi⟩ := h.ri.shape
 have HL1 := hide h1
 have HL2 := hide h2
 subst hvo
 subst hvi
 clear h h1 h2
 go_enter Tryz.func34, Tryz.ntmps34
 go_wp2
 go_loopw [3] (fun s3 wr => ∃ i : Nat, i <= os.length /\ s3 = .int .i64 (i : Int) /\ Hid (Below w.heap.size w wr)) (fun s3 _ => os.length - (intOf s3).toNat)
 case atStart => exact ⟨0, by omega, rfl, hide (Below.refl _ _)⟩
 case round =>
  obtain ⟨i, hi, rfl, HB⟩ := hrel
  have hw := HW.out wr HB.out
  have p1 := hw.p1
  have z1 := hw.wlt
  by_cases hlt : i < os.length
  ·obtain ⟨v, hv⟩ : ∃ v, os[i]? = some v := ⟨_, List.getElem?_eq_getElem hlt⟩
   obtain ⟨m, hm⟩ : ∃ m, ms[i]? = some m := ⟨_, List.getElem?_eq_getElem (by have := HL1.out; omega)⟩
   have hO := hw.mo i v m hv hm
   obtain ⟨g, cap, eg, gl, gc⟩ := rowG_at hw.ro hv
   cases eg
   have i0 : (0 : Int) <= (i : Int) := by omega
   have i1 : (i : Int) < (os.length : Int) := by omega
   have hwi : IntKind.i64.wrap ((i : Int) + 1) = (i : Int) + 1 := by rw [IntKind.wrap_i64]; omega
   have HN := hide (show ∀ W, Below w.heap.size w W -> W.cell? ⟨wb, 1, none⟩ = some (.slice (some ⟨g, 0, none⟩) os.length oc) /\ W.cell? ⟨g, i, none⟩ = some v /\ wb < W.heap.size /\ g < W.heap.size from fun W hW => by
    have hw' := HW.out W hW
    obtain ⟨g', cap', eg', gl', gc'⟩ := rowG_at hw'.ro hv
    cases eg'
    exact ⟨hw'.p1, gc', hw'.wlt, gl'⟩)
   have HM := hide (show ∀ W, Below w.heap.size w W -> ∃ gm capm, W.cell? ⟨wb, 2, none⟩ = some (.slice (some ⟨gm, 0, none⟩) ms.length capm) /\ W.cell? ⟨gm, i, none⟩ = some (.int .i64 m) /\ gm < W.heap.size from fun W hW => by
    have hw' := HW.out W hW
    obtain ⟨g', cap', eg', gl', gc'⟩ := rowG_at hw'.rm (i := i) (u := .int .i64 m) (by simp [hm])
    exact ⟨g', cap', by rw [<- eg']; exact hw'.p2, gc', gl'⟩)
   have HOO := hide (show ∀ W, Below w.heap.size w W -> OutM W v m from fun W hW => (HW.out W hW).mo i v m hv hm)
   have hms : (i : Int) < (ms.length : Int) := by have := HL1.out; omega
   rcases hO with rfl | ⟨gv, n, capv, cs, rfl, hn, hgv, hcs⟩
   ·clear hw hv hm HM HOO
    go_wp2
    go_loopw [4] (fun s4 wr2 => s4 = .int .i64 0 /\ Hid (Below w.heap.size w wr2)) (fun _ _ => 0)
    case atStart => exact ⟨rfl, HB⟩
    case round =>
     obtain ⟨rfl, HB2⟩ := hrel
     obtain ⟨q1, q2, q3, q4⟩ := HN.out wr HB2.out
     go_wp2
     exact ⟨⟨i + 1, by omega, by simp, HB2⟩, by simp [intOf]; omega⟩
   ·clear hw hv hm hgv hcs
    go_wp2
    go_loopw [4] (fun s4 wr2 => ∃ k : Nat, k <= n /\ s4 = .int .i64 (k : Int) /\ Hid (Below w.heap.size w wr2)) (fun s4 _ => n - (intOf s4).toNat)
    case atStart => exact ⟨0, by omega, rfl, HB⟩
    case round =>
     obtain ⟨k, hk, rfl, HB2⟩ := hrel
     obtain ⟨q1, q2, q3, q4⟩ := HN.out wr HB2.out
     by_cases hkl : k < n
     ·obtain ⟨gm, capm, r1, r2, r3⟩ := HM.out wr HB2.out
      obtain ⟨g3, cs, eg, hg3, hc3⟩ : ∃ g3 cs, gv = g3 /\ wr.heap[g3]? = some (.cells cs 90 (0, 0)) /\ ∀ j, j < n * 3 -> cs[j]? = some (.int .i64 m) := by
       rcases HOO.out wr HB2.out with h | ⟨g3, n3, cap3, cs3, h, _, h4, h5⟩
       ·cases h
       ·cases h; exact ⟨_, cs3, rfl, h4, h5⟩
      subst eg
      have k0 : (0 : Int) <= (k : Int) := by omega
      have k1 : (k : Int) < (n : Int) := by omega
      have c0 : wr.cell? ⟨gv, k * 3, none⟩ = some (.int .i64 m) := by simp [World.cell?, hg3, hc3 (k * 3) (by omega)]
      have c1 : wr.cell? ⟨gv, k * 3 + 1, none⟩ = some (.int .i64 m) := by simp [World.cell?, hg3, hc3 (k * 3 + 1) (by omega)]
      have c2 : wr.cell? ⟨gv, k * 3 + 2, none⟩ = some (.int .i64 m) := by simp [World.cell?, hg3, hc3 (k * 3 + 2) (by omega)]
      have zv : gv < wr.heap.size := (Array.getElem?_eq_some_iff.1 hg3).1
      have hwk : IntKind.i64.wrap ((k : Int) + 1) = (k : Int) + 1 := by rw [IntKind.wrap_i64]; omega
      clear hg3 hc3
      go_wp2
      go_quiet (fail)
      go_wp2
      exact ⟨⟨k + 1, by omega, by simp, hide (HB2.out.trans (Below.mono (by repeat (first | exact Below.refl _ _ | refine below_drewN ?_ _ | refine Below.drew ?_ | refine Below.trans ?_ (Below.mono (by assumption) ?_) | refine Below.alloc ?_ ?_ _ | refine Below.setCell ?_ ?_ _ | omega | (simp; omega) | simp)) HB2.out.size))⟩, by simp [intOf]; omega⟩
     ·obtain rfl : k = n := by omega
      go_wp2
      exact ⟨⟨i + 1, by omega, by simp, HB2⟩, by simp [intOf]; omega⟩
  ·obtain rfl : i = os.length := by omega
   clear hw
   go_wp2
   go_loopw [6] (fun s6 wr => ∃ i : Nat, i <= is.length /\ s6 = .int .i64 (i : Int) /\ Hid (Below w.heap.size w wr)) (fun s6 _ => is.length - (intOf s6).toNat)
   case atStart => exact ⟨0, by omega, rfl, HB⟩
   case round =>
    clear HB p1 z1 hi
    obtain ⟨i, hi, rfl, HB⟩ := hrel
    have hw := HW.out wr HB.out
    have p3 := hw.p3
    have z1 := hw.wlt
    by_cases hlt2 : i < is.length
    ·obtain ⟨v, hv⟩ : ∃ v, is[i]? = some v := ⟨_, List.getElem?_eq_getElem hlt2⟩
     obtain ⟨m, hm⟩ : ∃ m, ts[i]? = some m := ⟨_, List.getElem?_eq_getElem (by have := HL2.out; omega)⟩
     have hO := hw.mi i v m hv hm
     obtain ⟨g, cap, eg, gl, gc⟩ := rowG_at hw.ri hv
     cases eg
     have i0 : (0 : Int) <= (i : Int) := by omega
     have i1 : (i : Int) < (is.length : Int) := by omega
     have hwi : IntKind.i64.wrap ((i : Int) + 1) = (i : Int) + 1 := by rw [IntKind.wrap_i64]; omega
     have HN := hide (show ∀ W, Below w.heap.size w W -> W.cell? ⟨wb, 3, none⟩ = some (.slice (some ⟨g, 0, none⟩) is.length ic) /\ W.cell? ⟨g, i, none⟩ = some v /\ wb < W.heap.size /\ g < W.heap.size from fun W hW => by
      have hw' := HW.out W hW
      obtain ⟨g', cap', eg', gl', gc'⟩ := rowG_at hw'.ri hv
      cases eg'
      exact ⟨hw'.p3, gc', hw'.wlt, gl'⟩)
     have HM := hide (show ∀ W, Below w.heap.size w W -> ∃ gm capm, W.cell? ⟨wb, 4, none⟩ = some (.slice (some ⟨gm, 0, none⟩) ts.length capm) /\ W.cell? ⟨gm, i, none⟩ = some (.int .i64 m) /\ gm < W.heap.size from fun W hW => by
      have hw' := HW.out W hW
      obtain ⟨g', cap', eg', gl', gc'⟩ := rowG_at hw'.rt (i := i) (u := .int .i64 m) (by simp [hm])
      exact ⟨g', cap', by rw [<- eg']; exact hw'.p4, gc', gl'⟩)
     have HOO := hide (show ∀ W, Below w.heap.size w W -> InM W v m from fun W hW => (HW.out W hW).mi i v m hv hm)
     have hms : (i : Int) < (ts.length : Int) := by have := HL2.out; omega
     obtain ⟨gv, n, capv, cs, rfl, hn, hgv, hcs⟩ := hO
     clear hw hv hm hgv hcs
     go_wp2
     go_loopw [7] (fun s7 wr2 => ∃ k : Nat, k <= n /\ s7 = .int .i64 (k : Int) /\ Hid (Below w.heap.size w wr2)) (fun s7 _ => n - (intOf s7).toNat)
     case atStart => exact ⟨0, by omega, rfl, HB⟩
     case round =>
      obtain ⟨k, hk, rfl, HB2⟩ := hrel
      obtain ⟨q1, q2, q3, q4⟩ := HN.out wr HB2.out
      by_cases hkl : k < n
      ·obtain ⟨gm, capm, r1, r2, r3⟩ := HM.out wr HB2.out
       obtain ⟨g3, cs, eg, hg3, hc3⟩ : ∃ g3 cs, gv = g3 /\ wr.heap[g3]? = some (.cells cs 103 (0, 0)) /\ ∀ j, j < n -> cs[j * 3]? = some (.int .i64 m) /\ cs[j * 3 + 1]? = some (.int .i64 8) /\ cs[j * 3 + 2]? = some (.int .i64 0) := by
        obtain ⟨g3, n3, cap3, cs3, h, _, h4, h5⟩ := HOO.out wr HB2.out
        cases h; exact ⟨_, cs3, rfl, h4, h5⟩
       subst eg
       have k0 : (0 : Int) <= (k : Int) := by omega
       have k1 : (k : Int) < (n : Int) := by omega
       obtain ⟨d0, d1, d2⟩ := hc3 k hkl
       have c0 : wr.cell? ⟨gv, k * 3, none⟩ = some (.int .i64 m) := by simp [World.cell?, hg3, d0]
       have c1 : wr.cell? ⟨gv, k * 3 + 1, none⟩ = some (.int .i64 8) := by simp [World.cell?, hg3, d1]
       have c2 : wr.cell? ⟨gv, k * 3 + 2, none⟩ = some (.int .i64 0) := by simp [World.cell?, hg3, d2]
       have zv : gv < wr.heap.size := (Array.getElem?_eq_some_iff.1 hg3).1
       have hwk : IntKind.i64.wrap ((k : Int) + 1) = (k : Int) + 1 := by rw [IntKind.wrap_i64]; omega
       clear hg3 hc3 d0 d1 d2
       go_wp2
       go_quiet (fail)
       go_wp2
       exact ⟨⟨k + 1, by omega, by simp, hide (HB2.out.trans (Below.mono (by repeat (first | exact Below.refl _ _ | refine below_drewN ?_ _ | refine Below.drew ?_ | refine Below.trans ?_ (Below.mono (by assumption) ?_) | refine Below.alloc ?_ ?_ _ | refine Below.setCell ?_ ?_ _ | omega | (simp; omega) | simp)) HB2.out.size))⟩, by simp [intOf]; omega⟩
      ·obtain rfl : k = n := by omega
       go_wp2
       exact ⟨⟨i + 1, by omega, by simp, HB2⟩, by simp [intOf]; omega⟩
    ·obtain rfl : i = is.length := by omega
     clear hw
     go_wp2
     go_ret
     exact ⟨rfl, HB.out⟩
end
end Go.Proofs.YtglbamalagacgaaGreat

namespace Go.Proofs.YtglbamalagacgaaGreat
open Go.RowKit Go.Shelf
theorem RowG.set1 {e : TypeId} {sz : Nat} {w : World} {g n cap : Nat} {cs : List Value} (h : RowG e sz w (.slice (some ⟨g, 0, none⟩) n cap) n cs) {j : Nat} (hj : j < cs.length) (u : Value) : RowG e sz (w.setCell ⟨g, j, none⟩ u) (.slice (some ⟨g, 0, none⟩) n cap) n (cs.set j u) := by
 refine ⟨by rw [List.length_set]; exact h.1, ?_⟩
 rcases h.2 with ⟨h0, _⟩ | ⟨g', cap', sp, hv, hg, hl, hn, hc⟩
 ·cases h0
 ·cases hv
  refine .inr ⟨g, cap, sp, rfl, ?_, ?_, hn, hc⟩
  ·rw [setW hg j u]
   congr 2
   rw [List.setIfInBounds_toArray, List.set_append_left _ _ hj]
  ·rw [List.length_append, List.length_set, <- List.length_append]; exact hl
theorem eq_replicate {cs : List Value} {n : Nat} {u : Value} (hl : cs.length = n) (h : ∀ j, j < n -> cs[j]? = some u) : cs = List.replicate n u := by
 refine List.eq_replicate_iff.2 ⟨hl, fun b hb => ?_⟩
 obtain ⟨j, hj⟩ := List.mem_iff_getElem?.1 hb
 have := (List.getElem?_eq_some_iff.1 hj).1
 rw [h j (by omega)] at hj
 exact (Option.some.inj hj).symm
abbrev RowM (w : World) (l : Value) (n : Nat) (m : Int) : Prop := RowG 90 3 w l n (List.replicate (n * 3) (.int .i64 m))
theorem RowM.out {w : World} {l : Value} {n : Nat} {m : Int} (h : RowM w l n m) (hn : n <= 1000) : OutM w l m := by
 rcases h.2 with ⟨h0, _⟩ | ⟨g', cap', sp, hv, hg, hl, hn2, hc⟩
 ·exact .inl h0
 ·refine .inr ⟨g', n, cap', _, hv, hn, hg, fun j hj => ?_⟩
  rw [List.getElem?_toArray, List.getElem?_append_left (by simpa using hj), List.getElem?_replicate, if_pos hj]
def lenV : Value -> Nat
 | .slice _ n _ => n
 | _ => 0
section
variable {w W : World} {wb : Nat} {vs vo vm vi vt : Value} {os : List Value} {ms : List Int} {is : List Value} {ts : List Int} {last : Int} {F : List Nat}
theorem WdT.grows {l l' : Value} {n g : Nat} {m : Int} (h : WdT w wb vs vo vm vi vt os ms is ts last F) (hz : w.heap.size <= W.heap.size) (hr : RowM w l n m) (hg : l.ownBlock = some g) (hk : ∀ k, k < w.heap.size -> l.ownBlock ≠ some k -> W.heap[k]? = w.heap[k]?) (hr' : RowM W l' (n + 1) m) (hg' : l'.ownBlock = some g) (hmax : ∀ v ∈ os, v.ownBlock = some g -> lenV v <= n) : WdT W wb vs vo vm vi vt os ms is ts last F := by
 have hty := hr.ty
 have st : ∀ {v : Value} {e : TypeId}, TyB w v e -> e ≠ 90 -> ∀ g, v.ownBlock = some g -> W.heap[g]? = w.heap[g]? := fun hv he => hv.stays hty he hk
 have hwb : W.heap[wb]? = w.heap[wb]? := hk wb h.wlt fun e => by
  obtain ⟨c, hc⟩ := hty wb e
  exact tyNe hc h.blk (by decide) rfl
 have other : ∀ {v : Value}, TyB w v 90 -> v.ownBlock ≠ some g -> ∀ k, v.ownBlock = some k -> W.heap[k]? = w.heap[k]? := fun hv hne k hk2 => by
  obtain ⟨c, hc⟩ := hv k hk2
  exact hk k (Array.getElem?_eq_some_iff.1 hc).1 fun e => hne (by rw [hk2, <- e, hg])
 refine ⟨hwb.trans h.blk, h.ro.kept (st h.ro.ty (by decide)), h.rm.kept (st h.rm.ty (by decide)), h.ri.kept (st h.ri.ty (by decide)), h.rt.kept (st h.rt.ty (by decide)), fun i v m' h1 h2 => ?_, fun i v m' h1 h2 => (h.mi i v m' h1 h2).kept (st (h.mi i v m' h1 h2).ty (by decide)), fun v hv => ?_, fun v hv => (h.ti v hv).kept (st (h.ti v hv) (by decide)), h.ne, h.fb, h.fo, h.fm, h.fi, h.ft, h.ko, h.ki, fun k hk' => Nat.lt_of_lt_of_le (h.lt k hk') hz⟩
 ·have hO := h.mo i v m' h1 h2
  by_cases hv : v.ownBlock = some g
  ·have hlen := hmax v (List.mem_of_getElem? h1) hv
   rcases hO with rfl | ⟨g2, n2, cap2, cs2, rfl, hn2, hg2, hc2⟩
   ·cases hv
   ·have : g2 = g := by simpa [Value.ownBlock] using hv
    subst this
    have hlen : n2 <= n := hlen
    obtain ⟨c3, hc3⟩ := hr'.ty g2 hg'
    refine .inr ⟨g2, n2, cap2, c3, rfl, hn2, hc3, fun j hj => ?_⟩
    have hm : m' = m := by
     rcases hr.2 with ⟨h0, _⟩ | ⟨g4, cap4, sp4, hv4, hg4, _⟩
     ·rw [h0] at hg; cases hg
     ·have : g4 = g2 := by rw [hv4] at hg; simpa [Value.ownBlock] using hg
      subst this
      have q1 := hc2 0 (by omega)
      rw [hg4] at hg2
      have hcs : cs2 = (List.replicate (n * 3) (Value.int .i64 m) ++ sp4).toArray := by injection hg2 with e; injection e with e1; exact e1.symm
      rw [hcs, List.getElem?_toArray, List.getElem?_append_left (by simp; omega), List.getElem?_replicate, if_pos (by omega)] at q1
      injection q1 with q1; injection q1 with _ q1; exact q1.symm
    subst hm
    rcases hr'.2 with ⟨h0, _⟩ | ⟨g4, cap4, sp4, hv4, hg4, _⟩
    ·rw [h0] at hg'; cases hg'
    ·have : g4 = g2 := by rw [hv4] at hg'; simpa [Value.ownBlock] using hg'
     subst this
     rw [hc3] at hg4
     have hcs : c3 = (List.replicate ((n + 1) * 3) (Value.int .i64 m') ++ sp4).toArray := by injection hg4 with e; injection e
     rw [hcs, List.getElem?_toArray, List.getElem?_append_left (by simp; omega), List.getElem?_replicate, if_pos (by omega)]
  ·exact hO.kept (other hO.ty hv)
 ·by_cases hv2 : v.ownBlock = some g
  ·intro k hk2
   rw [hv2] at hk2
   cases hk2
   exact hr'.ty g hg'
  ·exact (h.to v hv).kept (other (h.to v hv) hv2)
end
def Wd (w : World) (wb : Nat) (vs : Value) (no ni : Nat) (F : List Nat) : Prop := ∃ vo vm vi vt os ms is ts last, WdT w wb vs vo vm vi vt os ms is ts last F /\ os.length = no /\ ms.length = no /\ is.length = ni /\ ts.length = ni
theorem Wd.lt {w : World} {wb : Nat} {vs : Value} {no ni : Nat} {F : List Nat} (h : Wd w wb vs no ni F) : ∀ k ∈ F, k < w.heap.size := by
 obtain ⟨vo, vm, vi, vt, os, ms, is, ts, last, h, _⟩ := h
 exact h.lt
theorem Wd.kept {w W : World} {wb : Nat} {vs : Value} {no ni : Nat} {F : List Nat} (h : Wd w wb vs no ni F) (hz : w.heap.size <= W.heap.size) (hk : ∀ k ∈ F, W.heap[k]? = w.heap[k]?) : Wd W wb vs no ni F := by
 obtain ⟨vo, vm, vi, vt, os, ms, is, ts, last, h, r⟩ := h
 exact ⟨vo, vm, vi, vt, os, ms, is, ts, last, h.kept hz hk, r⟩
theorem Wd.later {w W : World} {wb : Nat} {vs : Value} {no ni : Nat} {F : List Nat} (h : Wd w wb vs no ni F) (hB : Below w.heap.size w W) : Wd W wb vs no ni F := h.kept hB.size fun k hk => hB.block k (h.lt k hk)
theorem sliInfo : ∃ i, Tryz.prog.info? 61 = some i /\ i.zero = some (.slice none 0 0) /\ i.size = 1 /\ i.bytes = 24 := by
 have h : (Tryz.prog.info? 61).map (fun i => (i.zero, i.size, i.bytes)) = some (some (.slice none 0 0), 1, 24) := by kernel_rfl
 cases hq : Tryz.prog.info? 61 with
 | none => simp [hq] at h
 | some i => simp [hq] at h; exact ⟨i, rfl, h.1, h.2.1, h.2.2⟩
theorem slcInfo : ∃ i, Tryz.prog.info? 33 = some i /\ i.zero = some (.slice none 0 0) /\ i.size = 1 /\ i.bytes = 24 := by
 have h : (Tryz.prog.info? 33).map (fun i => (i.zero, i.size, i.bytes)) = some (some (.slice none 0 0), 1, 24) := by kernel_rfl
 cases hq : Tryz.prog.info? 33 with
 | none => simp [hq] at h
 | some i => simp [hq] at h; exact ⟨i, rfl, h.1, h.2.1, h.2.2⟩
theorem intInfo : ∃ i, Tryz.prog.info? 3 = some i /\ i.zero = some (.int .i64 0) /\ i.size = 1 /\ i.bytes = 8 := by
 have h : (Tryz.prog.info? 3).map (fun i => (i.zero, i.size, i.bytes)) = some (some (.int .i64 0), 1, 8) := by kernel_rfl
 cases hq : Tryz.prog.info? 3 with
 | none => simp [hq] at h
 | some i => simp [hq] at h; exact ⟨i, rfl, h.1, h.2.1, h.2.2⟩
theorem rouInfo : ∃ i, Tryz.prog.info? 90 = some i /\ i.zero = some (.agg #[.int .i64 0, .int .i64 0, .int .i64 0]) /\ i.size = 3 /\ i.bytes = 24 := by
 have h : (Tryz.prog.info? 90).map (fun i => (i.zero, i.size, i.bytes)) = some (some (.agg #[.int .i64 0, .int .i64 0, .int .i64 0]), 3, 24) := by kernel_rfl
 cases hq : Tryz.prog.info? 90 with
 | none => simp [hq] at h
 | some i => simp [hq] at h; exact ⟨i, rfl, h.1, h.2.1, h.2.2⟩
structure Kw (w wr : World) (wb : Nat) (vs vi vt vo vm : Value) (os : List Value) (ms : List Int) (is : List Value) (ts : List Int) (F0 F : List Nat) (m : Int) (N : Nat) (l : Value) : Prop where
 W : WdT wr wb vs vo vm vi vt os ms is ts m F
 row : RowM wr l N m
 own : ∀ g, l.ownBlock = some g -> g ∈ F
 new : NewF w F0 F
 only : Only F0 w wr
 rb : wr.heap[w.heap.size]? = some (.cells #[.int .i64 m, .int .i64 m, .int .i64 m] 90 (0, 0))
 nb : w.heap.size ∉ F
theorem setCell_size (w : World) (a : Addr) (v : Value) : (w.setCell a v).heap.size = w.heap.size := by simp [World.setCell]
theorem only_set {w : World} {F : List Nat} {b o : Nat} {v : Value} (hb : b ∈ F) : Only F w (w.setCell ⟨b, o, none⟩ v) := ⟨rfl, rfl, rfl, by rw [setCell_size]; exact Nat.le_refl _, fun k _ hn => Below.heap_setCell _ _ _ _ (by show k ≠ b; exact fun e => hn (by rw [e]; exact hb))⟩
section
variable {w wr : World} {wb : Nat} {vs vi vt vo vm l : Value} {os : List Value} {ms : List Int} {is : List Value} {ts : List Int} {F0 F : List Nat} {m : Int} {N K : Nat}
theorem Kw.rbl (h : Kw w wr wb vs vi vt vo vm os ms is ts F0 F m N l) : w.heap.size < wr.heap.size := (Array.getElem?_eq_some_iff.1 h.rb).1
theorem Kw.side {W : World} {u u' : Value} {o g : Nat} {e : TypeId} (h : Kw w wr wb vs vi vt vo vm os ms is ts F0 F m N l) (hu : TyB wr u e) (heR : 90 ≠ e) (hew : e ≠ 75) (huF : ∀ g, u.ownBlock = some g -> g ∈ F) (r3 : ∀ k, k < wr.heap.size -> u.ownBlock ≠ some k -> W.heap[k]? = wr.heap[k]?) (r5 : Only u.ownBlock.toList wr W) (hgn : some g = u.ownBlock ∨ w.heap.size < g) :
  (W.heap[wb]? = wr.heap[wb]? /\ wb < W.heap.size) /\ RowM (W.setCell ⟨wb, o, none⟩ u') l N m /\ NewF w F0 (F ++ [g]) /\ Only F0 w (W.setCell ⟨wb, o, none⟩ u') /\ (W.setCell ⟨wb, o, none⟩ u').heap[w.heap.size]? = some (.cells #[.int .i64 m, .int .i64 m, .int .i64 m] 90 (0, 0)) /\ w.heap.size ∉ F ++ [g] /\ ∀ g', l.ownBlock = some g' -> g' ∈ F ++ [g] := by
 have hz2 := h.only.size
 have hrbl := h.rbl
 have hrbo : u.ownBlock ≠ some w.heap.size := fun e => h.nb (huF _ e)
 have hwo : u.ownBlock ≠ some wb := fun e2 => by
  obtain ⟨c, hc⟩ := hu wb e2
  exact tyNe hc h.W.blk hew rfl
 have hkw : W.heap[wb]? = wr.heap[wb]? := r3 wb h.W.wlt hwo
 have hne : w.heap.size ≠ wb := fun e => h.nb (by rw [e]; exact h.W.fb)
 refine ⟨⟨hkw, Nat.lt_of_lt_of_le h.W.wlt r5.size⟩, ?_, ?_, ?_, ?_, ?_, fun g' hg' => List.mem_append.2 (.inl (h.own g' hg'))⟩
 ·refine (h.row.kept (h.row.ty.stays hu heR r3)).kept fun k hk => Below.heap_setCell _ _ _ _ ?_
  show k ≠ wb
  rintro rfl
  obtain ⟨c, hc⟩ := h.row.ty k hk
  exact tyNe hc h.W.blk (by decide) rfl
 ·intro k hk
  rcases List.mem_append.1 hk with h1 | h1
  ·exact h.new k h1
  ·have : k = g := by simpa using h1
   subst this
   rcases hgn with h2 | h2
   ·exact h.new k (huF k h2.symm)
   ·exact .inr (by omega)
 ·refine (h.only.trans r5 fun x hx => h.new x (huF x (by simpa using hx))).trans (only_set (F := [wb]) (by simp)) fun x hx => ?_
  have : x = wb := by simpa using hx
  subst this
  exact h.new x h.W.fb
 ·exact (Below.heap_setCell _ _ _ _ hne).trans ((r3 _ hrbl hrbo).trans h.rb)
 ·intro hm
  rcases List.mem_append.1 hm with h1 | h1
  ·exact h.nb h1
  ·have : w.heap.size = g := by simpa using h1
   rcases hgn with h2 | h2
   ·exact hrbo (by rw [this, h2])
   ·omega
theorem Kw.one (h : Kw w wr wb vs vi vt vo vm os ms is ts F0 F m N l) (hK : os.length = K) (hl : ms.length <= os.length) (hb : K <= 9000000000000) (ty : TypeId) : ∃ g cap W, (Builtin.append_ #[72, 72] ty #[vo, .slice (some ⟨wr.heap.size, 0, none⟩) 1 1]).run Tryz.prog (wr.alloc (.cells #[l] 61)) = .ok (.slice (some ⟨g, 0, none⟩) (K + 1) cap) W ∧
  Kw w (W.setCell ⟨wb, 1, none⟩ (.slice (some ⟨g, 0, none⟩) (K + 1) cap)) wb vs vi vt (.slice (some ⟨g, 0, none⟩) (K + 1) cap) vm (os ++ [l]) ms is ts F0 (F ++ [g]) m N l /\ W.cell? ⟨wb, 1, none⟩ = some vo /\ W.frozen? ⟨wb, 1, none⟩ = false /\ wb < W.heap.size := by
 obtain ⟨ii, hi, hz, hs, hby⟩ := sliInfo
 obtain ⟨la, lc, hlv⟩ := h.row.shape
 obtain ⟨g, cap, W, r1, r2, r3, r4, r5, r6⟩ := append_one (w := wr) 72 ty 61 ii (.slice none 0 0) 1 24 Tryz.underlying72 hi hz hs hby rfl (by omega) (by omega) vo os.length os [l] rfl (by simp [hlv, Value.oneCell']) h.W.ro (by omega)
 have hW := h.W.outs r3 r4 r2 hl h.row.ty h.own
 have hrbl := h.rbl
 rw [hK] at r1 r2 hW
 obtain ⟨⟨p1, p2⟩, p3, p4, p5, p6, p7, p8⟩ := h.side (u' := .slice (some ⟨g, 0, none⟩) (K + 1) cap) (o := 1) h.W.ro.ty (by decide) (by decide) h.W.fo r3 r5 (r6.imp id fun h => by omega)
 exact ⟨g, cap, W, r1, ⟨hW, p3, p8, p4, p5, p6, p7⟩, by simp only [World.cell?, p1]; exact h.W.p1, by simp only [World.frozen?, p1]; exact h.W.fz 1, p2⟩
theorem Kw.two (h : Kw w wr wb vs vi vt vo vm os ms is ts F0 F m N l) (hK : ms.length = K) (hl : ∀ v, os[ms.length]? = some v -> v = l) (hN : N <= 1000) (hb : K <= 9000000000000) (ty : TypeId) : ∃ g cap W, (Builtin.append_ #[41, 41] ty #[vm, .slice (some ⟨wr.heap.size, 0, none⟩) 1 1]).run Tryz.prog (wr.alloc (.cells #[.int .i64 m] 3)) = .ok (.slice (some ⟨g, 0, none⟩) (K + 1) cap) W ∧
  Kw w (W.setCell ⟨wb, 2, none⟩ (.slice (some ⟨g, 0, none⟩) (K + 1) cap)) wb vs vi vt vo (.slice (some ⟨g, 0, none⟩) (K + 1) cap) os (ms ++ [m]) is ts F0 (F ++ [g]) m N l /\ W.cell? ⟨wb, 2, none⟩ = some vm /\ W.frozen? ⟨wb, 2, none⟩ = false /\ wb < W.heap.size := by
 obtain ⟨ii, hi, hz, hs, hby⟩ := intInfo
 obtain ⟨g, cap, W, r1, r2, r3, r4, r5, r6⟩ := append_one (w := wr) 41 ty 3 ii (.int .i64 0) 1 8 Tryz.underlying41 hi hz hs hby rfl (by omega) (by omega) vm ms.length (ms.map fun m => .int .i64 m) [.int .i64 m] rfl (by simp [Value.oneCell']) h.W.rm (by omega)
 have hrbl := h.rbl
 have hW := h.W.marks r3 r4 r2 (fun g' hg' => by
  have hgg : g = g' := by simpa [Value.ownBlock] using hg'
  subst hgg
  exact r6.imp (fun h => h.symm) fun h => by omega) (fun v hv => by rw [hl v hv]; exact h.row.out hN)
 rw [hK] at r1 r2 hW
 obtain ⟨⟨p1, p2⟩, p3, p4, p5, p6, p7, p8⟩ := h.side (u' := .slice (some ⟨g, 0, none⟩) (K + 1) cap) (o := 2) h.W.rm.ty (by decide) (by decide) h.W.fm r3 r5 (r6.imp id fun h => by omega)
 exact ⟨g, cap, W, r1, ⟨hW, p3, p8, p4, p5, p6, p7⟩, by simp only [World.cell?, p1]; exact h.W.p2, by simp only [World.frozen?, p1]; exact h.W.fz 2, p2⟩
theorem Kw.three (h : Kw w wr wb vs vi vt vo vm os ms is ts F0 F m N l) (hN : N <= 1000) (hmax : ∀ v ∈ os, ∀ g, l.ownBlock = some g -> v.ownBlock = some g -> lenV v <= N) (ty : TypeId) : ∃ g cap W, (Builtin.append_ #[61, 61] ty #[l, .slice (some ⟨wr.heap.size, 0, none⟩) 1 1]).run Tryz.prog (wr.alloc (.cells #[.int .i64 m, .int .i64 m, .int .i64 m] 90)) = .ok (.slice (some ⟨g, 0, none⟩) (N + 1) cap) W ∧
  Kw w W wb vs vi vt vo vm os ms is ts F0 (F ++ [g]) m (N + 1) (.slice (some ⟨g, 0, none⟩) (N + 1) cap) /\ ∀ v ∈ os, ∀ g', (Value.slice (some ⟨g, 0, none⟩) (N + 1) cap).ownBlock = some g' -> v.ownBlock = some g' -> lenV v <= N + 1 := by
 obtain ⟨ii, hi, hz, hs, hby⟩ := rouInfo
 obtain ⟨g, cap, W, r1, r2, r3, r4, r5, r6⟩ := append_one (w := wr) 61 ty 90 ii (.agg #[.int .i64 0, .int .i64 0, .int .i64 0]) 3 24 Tryz.underlying61 hi hz hs hby rfl (by omega) (by omega) l N (List.replicate (N * 3) (.int .i64 m)) [.int .i64 m, .int .i64 m, .int .i64 m] rfl (by simp [Value.oneCell']) h.row (by omega)
 have hrbl := h.rbl
 have hz2 := h.only.size
 have e : List.replicate (N * 3) (Value.int .i64 m) ++ [.int .i64 m, .int .i64 m, .int .i64 m] = List.replicate ((N + 1) * 3) (.int .i64 m) := by
  show List.replicate (N * 3) (Value.int .i64 m) ++ List.replicate 3 (Value.int .i64 m) = _
  rw [List.replicate_append_replicate, show N * 3 + 3 = (N + 1) * 3 by omega]
 rw [e] at r2
 have hrow : RowM W (.slice (some ⟨g, 0, none⟩) (N + 1) cap) (N + 1) m := r2
 have hgl : g < W.heap.size := hrow.lt g rfl
 have hW : WdT W wb vs vo vm vi vt os ms is ts m F := by
  rcases r6 with h6 | ⟨h6, h7⟩
  ·exact h.W.grows r4 h.row h6.symm r3 hrow rfl fun v hv hg => hmax v hv g h6.symm hg
  ·exact h.W.later h7
 refine ⟨g, cap, W, r1, ⟨hW.wide (fun k hk => List.mem_append.2 (.inl hk)) fun k hk => ?_, hrow, fun g' hg' => ?_, fun k hk => ?_, h.only.trans r5 fun x hx => h.new x (h.own x (by simpa using hx)), ?_, fun hm => ?_⟩, fun v hv g' hg' hv' => ?_⟩
 ·rcases List.mem_append.1 hk with h1 | h1
  ·exact hW.lt k h1
  ·have : k = g := by simpa using h1
   rw [this]; exact hgl
 ·have : g = g' := by simpa [Value.ownBlock] using hg'
  simp [this]
 ·rcases List.mem_append.1 hk with h1 | h1
  ·exact h.new k h1
  ·have : k = g := by simpa using h1
   subst this
   rcases r6 with h2 | h2
   ·exact h.new k (h.own k h2.symm)
   ·exact .inr (by omega)
 ·exact (r3 _ hrbl fun e => h.nb (h.own _ e)).trans h.rb
 ·rcases List.mem_append.1 hm with h1 | h1
  ·exact h.nb h1
  ·have : w.heap.size = g := by simpa using h1
   rcases r6 with h2 | h2
   ·exact h.nb (h.own _ (by rw [this]; exact h2.symm))
   ·omega
 ·have hgg : g = g' := by simpa [Value.ownBlock] using hg'
  subst hgg
  rcases r6 with h2 | h2
  ·have := hmax v hv g h2.symm hv'
   omega
  ·have := h.W.lt g (h.W.ko v hv g hv')
   omega
end
end Go.Proofs.YtglbamalagacgaaGreat

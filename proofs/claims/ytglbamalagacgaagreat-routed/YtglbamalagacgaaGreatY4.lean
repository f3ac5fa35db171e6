import Derived.Test.YtglbamalagacgaaGreatN0
import Derived.Test.YtglbamalagacgaaGreatY2
import Derived.Test.YtglbamalagacgaaGreatY3
import Derived.Deep.RegionHeld3
namespace Go.Proofs.YtglbamalagacgaaGreat
open Go.RowKit Go.Shelf
attribute [local go_sem] Oper.semAt_some
def RowL (w : World) (v : Value) (lg : List (Int × Int)) : Prop := (v = .slice none 0 0 /\ lg = []) ∨
 ∃ g off cap cs, v = .slice (some ⟨g, off, none⟩) lg.length cap /\ w.heap[g]? = some (.cells cs 65 (0, 0)) /\ lg.length <= cap /\ off + cap * 2 <= cs.size /\ cap <= maxLen ∧
  ∀ i p, lg[i]? = some p -> cs[off + i * 2]? = some (.int .i64 p.1) /\ cs[off + i * 2 + 1]? = some (.int .i64 p.2)
theorem RowL.shape {w : World} {v : Value} {lg : List (Int × Int)} (h : RowL w v lg) : ∃ a c, v = .slice a lg.length c := by
 rcases h with ⟨rfl, rfl⟩ | ⟨g, off, cap, cs, rfl, _⟩
 ·exact ⟨_, _, rfl⟩
 ·exact ⟨_, _, rfl⟩
theorem RowL.lt {w : World} {v : Value} {lg : List (Int × Int)} (h : RowL w v lg) : ∀ g, v.ownBlock = some g -> g < w.heap.size := by
 intro g hg
 rcases h with ⟨rfl, rfl⟩ | ⟨g', off, cap, cs, rfl, hh, _⟩
 ·cases hg
 ·cases hg; exact (Array.getElem?_eq_some_iff.1 hh).1
theorem RowL.kept {w w' : World} {v : Value} {lg : List (Int × Int)} (h : RowL w v lg) (hk : ∀ g, v.ownBlock = some g -> w'.heap[g]? = w.heap[g]?) : RowL w' v lg := by
 rcases h with h | ⟨g, off, cap, cs, rfl, hh, r⟩
 ·exact .inl h
 ·exact .inr ⟨g, off, cap, cs, rfl, (hk g rfl).trans hh, r⟩
theorem RowL.nil (w : World) : RowL w (.slice none 0 0) [] := .inl ⟨rfl, rfl⟩
def cuM : Option Mv -> Int
 | none => -1
 | some m => if m.cp = 0 then -1 else 9 * m.ca + m.cl
def lgM : Option Mv -> List (Int × Int)
 | none => []
 | some m => m.lg
def ysM : Option Mv -> List Ent
 | none => []
 | some m => m.ys
abbrev refB (c0 : Int) (s : TS) (vr vc vl : Value) : Array Value := #[.int .i64 c0, .int .i64 s.b, .int .i64 s.ch, .int .i64 s.lim, .int .i64 s.k, vr, .int .i64 (knM s.mv), .int .i64 (phM s.mv), vc, .int .i64 (cuM s.mv), .int .i64 (cpM s.mv), vl, .int .i64 s.ms, .int .i64 s.bs]
structure RefT (w : World) (y : Nat) (s : TS) (c0 : Int) (vr vc vl : Value) (rl cl : List Ent) : Prop where
 blk : w.heap[y]? = some (.cells (refB c0 s vr vc vl) 122 (0, 0))
 rr : RowU w vr rl
 rep : Rep rl s.xs
 cr : RowU w vc cl
 cep : Rep cl (ysM s.mv)
 lr : RowL w vl (lgM s.mv)
 y1 : vr.ownBlock ≠ some y
 y2 : vc.ownBlock ≠ some y
 y3 : vl.ownBlock ≠ some y
 l1 : ∀ g, vl.ownBlock = some g -> vr.ownBlock ≠ some g
 l2 : ∀ g, vl.ownBlock = some g -> vc.ownBlock ≠ some g
def refA (y : Nat) (vr vc vl : Value) : List Nat := y :: (vr.ownBlock.toList ++ (vc.ownBlock.toList ++ vl.ownBlock.toList))
theorem refA_mem {y : Nat} {vr vc vl : Value} {k : Nat} : k ∈ refA y vr vc vl ↔ k = y ∨ vr.ownBlock = some k ∨ vc.ownBlock = some k ∨ vl.ownBlock = some k := by
 unfold refA
 simp
def RT (w : World) (y : Nat) (s : TS) (A : List Nat) : Prop := ∃ c0 vr vc vl rl cl, RefT w y s c0 vr vc vl rl cl /\ A = refA y vr vc vl
section
variable {w w' : World} {y : Nat} {s : TS} {c0 : Int} {vr vc vl : Value} {rl cl : List Ent} {A : List Nat}
theorem RefT.lt (h : RefT w y s c0 vr vc vl rl cl) : y < w.heap.size := (Array.getElem?_eq_some_iff.1 h.blk).1
theorem RefT.kept (h : RefT w y s c0 vr vc vl rl cl) (hk : ∀ k ∈ refA y vr vc vl, w'.heap[k]? = w.heap[k]?) : RefT w' y s c0 vr vc vl rl cl :=
 ⟨(hk y (refA_mem.2 (.inl rfl))).trans h.blk, h.rr.kept fun g hg => hk g (refA_mem.2 (.inr (.inl hg))), h.rep, h.cr.kept fun g hg => hk g (refA_mem.2 (.inr (.inr (.inl hg)))), h.cep, h.lr.kept fun g hg => hk g (refA_mem.2 (.inr (.inr (.inr hg)))), h.y1, h.y2, h.y3, h.l1, h.l2⟩
theorem RefT.ltA (h : RefT w y s c0 vr vc vl rl cl) : ∀ k ∈ refA y vr vc vl, k < w.heap.size := fun k hk => by
 rcases refA_mem.1 hk with rfl | h1 | h1 | h1
 ·exact h.lt
 ·exact h.rr.lt k h1
 ·exact h.cr.lt k h1
 ·exact h.lr.lt k h1
theorem RefT.later (h : RefT w y s c0 vr vc vl rl cl) (hB : Below w.heap.size w w') : RefT w' y s c0 vr vc vl rl cl := h.kept fun k hk => hB.block k (h.ltA k hk)
theorem RT.lt (h : RT w y s A) : ∀ k ∈ A, k < w.heap.size := by
 obtain ⟨c0, vr, vc, vl, rl, cl, h, rfl⟩ := h
 exact h.ltA
theorem RT.kept (h : RT w y s A) (hk : ∀ k ∈ A, w'.heap[k]? = w.heap[k]?) : RT w' y s A := by
 obtain ⟨c0, vr, vc, vl, rl, cl, h, rfl⟩ := h
 exact ⟨c0, vr, vc, vl, rl, cl, h.kept hk, rfl⟩
theorem RT.later (h : RT w y s A) (hB : Below w.heap.size w w') : RT w' y s A := h.kept fun k hk => hB.block k (h.lt k hk)
theorem RefT.q1 (h : RefT w y s c0 vr vc vl rl cl) : w.cell? ⟨y, 1, none⟩ = some (.int .i64 s.b) := by simp only [World.cell?, h.blk]; rfl
theorem RefT.q2 (h : RefT w y s c0 vr vc vl rl cl) : w.cell? ⟨y, 2, none⟩ = some (.int .i64 s.ch) := by simp only [World.cell?, h.blk]; rfl
theorem RefT.q3 (h : RefT w y s c0 vr vc vl rl cl) : w.cell? ⟨y, 3, none⟩ = some (.int .i64 s.lim) := by simp only [World.cell?, h.blk]; rfl
theorem RefT.q4 (h : RefT w y s c0 vr vc vl rl cl) : w.cell? ⟨y, 4, none⟩ = some (.int .i64 s.k) := by simp only [World.cell?, h.blk]; rfl
theorem RefT.q5 (h : RefT w y s c0 vr vc vl rl cl) : w.cell? ⟨y, 5, none⟩ = some (vr) := by simp only [World.cell?, h.blk]; rfl
theorem RefT.q6 (h : RefT w y s c0 vr vc vl rl cl) : w.cell? ⟨y, 6, none⟩ = some (.int .i64 (knM s.mv)) := by simp only [World.cell?, h.blk]; rfl
theorem RefT.q7 (h : RefT w y s c0 vr vc vl rl cl) : w.cell? ⟨y, 7, none⟩ = some (.int .i64 (phM s.mv)) := by simp only [World.cell?, h.blk]; rfl
theorem RefT.q8 (h : RefT w y s c0 vr vc vl rl cl) : w.cell? ⟨y, 8, none⟩ = some (vc) := by simp only [World.cell?, h.blk]; rfl
theorem RefT.q9 (h : RefT w y s c0 vr vc vl rl cl) : w.cell? ⟨y, 9, none⟩ = some (.int .i64 (cuM s.mv)) := by simp only [World.cell?, h.blk]; rfl
theorem RefT.q10 (h : RefT w y s c0 vr vc vl rl cl) : w.cell? ⟨y, 10, none⟩ = some (.int .i64 (cpM s.mv)) := by simp only [World.cell?, h.blk]; rfl
theorem RefT.q11 (h : RefT w y s c0 vr vc vl rl cl) : w.cell? ⟨y, 11, none⟩ = some (vl) := by simp only [World.cell?, h.blk]; rfl
theorem RefT.q12 (h : RefT w y s c0 vr vc vl rl cl) : w.cell? ⟨y, 12, none⟩ = some (.int .i64 s.ms) := by simp only [World.cell?, h.blk]; rfl
theorem RefT.q13 (h : RefT w y s c0 vr vc vl rl cl) : w.cell? ⟨y, 13, none⟩ = some (.int .i64 s.bs) := by simp only [World.cell?, h.blk]; rfl
theorem RefT.fz (h : RefT w y s c0 vr vc vl rl cl) (i : Nat) : w.frozen? ⟨y, i, none⟩ = false := by simp [World.frozen?, h.blk]
end
structure Good (s : TS) : Prop where
 xs : Sorted s.xs
 ok : ∀ x ∈ s.xs, okE x
 k1 : 1 <= s.k
 k3 : s.k <= 3
 mv : ∀ m, s.mv = some m -> Sorted m.ys /\ (∀ x ∈ m.ys, okE x) /\ 1 <= m.k /\ m.k <= 3 /\ m.lg.length <= 100
theorem TS.Ok.good {s : TS} (h : s.Ok) : Good s := ⟨h.sorted, h.ok, h.k1, h.k3, fun m hm => ⟨(h.mv m hm).1.sorted, (h.mv m hm).1.ok, (h.mv m hm).1.k1, (h.mv m hm).1.k3, by have := (h.mv m hm).2; have := h.l16; omega⟩⟩
theorem Good.nums {s : TS} (h : Good s) : 0 <= needK s.k s.xs /\ needK s.k s.xs <= 10000 /\ 0 <= tgtM s.mv /\ tgtM s.mv <= 10000 /\ 0 <= lgdM s.mv /\ lgdM s.mv <= 100 := by
 have h1 := needK_bd (k := s.k) h.xs h.ok
 cases hm : s.mv with
 | none => exact ⟨h1.1, h1.2, by simp [tgtM], by simp [tgtM], by simp [lgdM], by simp [lgdM]⟩
 | some m =>
  obtain ⟨g1, g2, _, _, g5⟩ := h.mv m hm
  have h2 := needK_bd (k := m.k) g1 g2
  exact ⟨h1.1, h1.2, h2.1, h2.2, by simp [lgdM], by simp [lgdM]; omega⟩
set_option maxRecDepth 4000 in
set_option maxHeartbeats 1000000 in
theorem use_r (w : World) (y : Nat) (s : TS) (A : List Nat) (hT : RT w y s A) (hg : Good s) :
  Calls Tryz.prog 104 #[ptrV y] w fun r w' => r = .returned (.int .i64 s.use) /\ Below w.heap.size w w' := by
 obtain ⟨c0, vr, vc, vl, rl, cl, h, rfl⟩ := hT
 obtain ⟨n1, n2, n3, n4, n5, n6⟩ := hg.nums
 have yl := h.lt
 have hrl : rl.length <= 1000000 := by rw [h.rep.len hg.xs]; have := ok_len hg.xs hg.ok; omega
 have e4 := h.q4
 have e5 := h.q5
 have hc1 := hide (cells_r w.drew s.k vr rl s.xs hg.k1 hg.k3 (h.rr.kept fun _ _ => rfl) hrl h.rep hg.xs hg.ok)
 have hm : s.mv = none ∨ ∃ m, s.mv = some m := by cases s.mv <;> simp
 have HL := hide (fun W (hW : Below w.heap.size w W) => h.later hW)
 obtain ⟨ra, rc, rfl⟩ := h.rr.shape
 rcases hm with hm | ⟨m, hm⟩
 ·have hu : s.use = needK s.k s.xs := by unfold TS.use TS.act; rw [hm]; simp [tgtM, lgdM]
  rw [hu]
  have HT0 := hide (show ∀ W, Below w.heap.size w W -> W.cell? ⟨y, 6, none⟩ = some (.int .i64 0) from fun W hW => by
   have := (HL.out W hW).q6
   rw [hm] at this
   exact this)
  clear hg h hm hu HL n3 n4 n5 n6
  generalize needK s.k s.xs = K at *
  generalize s.k = sk at *
  go_enter Tryz.func104, Tryz.ntmps104
  go_wp2
  go_region_held3 (fun w' => w'.cell? ⟨y, 4, none⟩ = some (.int .i64 sk) /\ w'.cell? ⟨y, 5, none⟩ = some (.slice ra rl.length rc)) (go_keep)
   (first | (go_at_call 102; refine hc1.out.mono ?_; rintro _ w5 ⟨rfl, hb5⟩; (have u1 : ∀ o, w5.cell? ⟨y, o, none⟩ = w.cell? ⟨y, o, none⟩ := fun o => hb5.cell (p := ⟨y, o, none⟩) yl)))
  have hbw : Below w.heap.size w w5 := (Below.refl _ w).drew.trans hb5
  have t0 := HT0.out w5 hbw
  have z1 : y < w5.heap.size := by have := hbw.size; omega
  have HBW := hide hbw
  clear hb5 u1 hbw HT0
  go_wp2
  go_ret
  exact ⟨rfl, HBW.out⟩
 ·obtain ⟨g1, g2, g3, g4, g5⟩ := hg.mv m hm
  have hcl : cl.length <= 1000000 := by
   have hcep := h.cep
   rw [hm] at hcep
   have h1 : cl.length = m.ys.length := hcep.len g1
   have := ok_len g1 g2
   omega
  have hu : s.use = needK s.k s.xs + needK m.k m.ys + (m.lg.length : Nat) := by unfold TS.use TS.act; rw [hm]; rfl
  rw [hu]
  have ht2 : tgtM s.mv = needK m.k m.ys := by rw [hm]; rfl
  rw [ht2] at n3 n4
  have HT0 := hide (show ∀ W, Below w.heap.size w W -> W.cell? ⟨y, 6, none⟩ = some (.int .i64 m.k) /\ W.cell? ⟨y, 8, none⟩ = some vc /\ W.cell? ⟨y, 11, none⟩ = some vl /\ Calls Tryz.prog 102 #[.int .i64 m.k, vc] W.drew (fun r w' => r = .returned (.int .i64 (needK m.k m.ys)) /\ Below W.drew.heap.size W.drew w') from fun W hW => by
   have hW' := HL.out W hW
   have e6 := hW'.q6
   rw [hm] at e6
   have hcep := hW'.cep
   rw [hm] at hcep
   exact ⟨e6, hW'.q8, hW'.q11, cells_r W.drew m.k vc cl m.ys g3 g4 (hW'.cr.kept fun _ _ => rfl) hcl hcep g1 g2⟩)
  have hlr := h.lr
  rw [hm] at hlr
  obtain ⟨la, lc, hlv⟩ := hlr.shape
  obtain ⟨ca, cc, hcv⟩ := h.cr.shape
  have hlv : vl = .slice la m.lg.length lc := hlv
  subst hlv
  subst hcv
  have hz3 : (m.k != 0) = true := by simp; omega
  have hw1 : IntKind.i64.wrap (needK s.k s.xs + needK m.k m.ys) = needK s.k s.xs + needK m.k m.ys := by rw [IntKind.wrap_i64]; omega
  have hw2 : IntKind.i64.wrap (needK s.k s.xs + needK m.k m.ys + (m.lg.length : Nat)) = needK s.k s.xs + needK m.k m.ys + (m.lg.length : Nat) := by rw [IntKind.wrap_i64]; omega
  clear hg h hm hu HL n3 n4 n5 n6 g1 g2 g3 g4 g5 hlr ht2
  generalize needK s.k s.xs = K at *
  generalize needK m.k m.ys = K2 at *
  generalize s.k = sk at *
  obtain ⟨mk, hmk⟩ : ∃ mk, m.k = mk := ⟨_, rfl⟩
  rw [hmk] at HT0 hz3
  clear hmk
  go_enter Tryz.func104, Tryz.ntmps104
  go_wp2
  go_region_held3 (fun w' => w'.cell? ⟨y, 4, none⟩ = some (.int .i64 sk) /\ w'.cell? ⟨y, 5, none⟩ = some (.slice ra rl.length rc)) (go_keep)
   (first | (go_at_call 102; refine hc1.out.mono ?_; rintro _ w5 ⟨rfl, hb5⟩; (have u1 : ∀ o, w5.cell? ⟨y, o, none⟩ = w.cell? ⟨y, o, none⟩ := fun o => hb5.cell (p := ⟨y, o, none⟩) yl)))
  have hbw : Below w.heap.size w w5 := (Below.refl _ w).drew.trans hb5
  obtain ⟨t6, t8, t11, hcc⟩ := HT0.out w5 hbw
  have hc2 := hide hcc
  have z1 : y < w5.heap.size := by have := hbw.size; omega
  have HBW := hide hbw
  clear hb5 u1 hbw HT0 hcc hc1 e4 e5
  go_wp2
  go_region_held3 (fun w' => w'.cell? ⟨y, 6, none⟩ = some (.int .i64 mk) /\ w'.cell? ⟨y, 8, none⟩ = some (.slice ca cl.length cc) /\ w'.cell? ⟨y, 11, none⟩ = some (.slice la m.lg.length lc)) (go_keep)
   (first | (go_at_call 102; refine hc2.out.mono ?_; rintro _ w6 ⟨rfl, hb6⟩; (have u1 : ∀ o, w6.cell? ⟨y, o, none⟩ = w5.cell? ⟨y, o, none⟩ := fun o => hb6.cell (p := ⟨y, o, none⟩) z1)))
  have fin := hide (show Below w.heap.size w w6 from HBW.out.trans (((Below.refl _ w5).drew.trans hb6).mono HBW.out.size))
  clear hb6 u1 hc2
  go_wp2
  go_ret
  exact ⟨rfl, fin.out⟩
end Go.Proofs.YtglbamalagacgaaGreat

namespace Go.Proofs.YtglbamalagacgaaGreat
open Go.RowKit Go.Shelf
attribute [local go_sem] Oper.semAt_some
def RTurn (w : World) (y : Nat) (A : List Nat) (v : Value) (s' : TS) (r : Ending) (w' : World) : Prop := ∃ A', r = .returned v /\ RT w' y s' A' /\ NewF w A A' /\ Only A w w'
set_option maxHeartbeats 400000 in
theorem over_r (w : World) (y : Nat) (s : TS) (A : List Nat) (n : Int) (hT : RT w y s A) (hg : Good s) :
  Calls Tryz.prog 108 #[ptrV y, .int .i64 n] w fun r w' => r = .returned (.bool (decide (s.b < s.use) && decide (n < s.use))) /\ Below w.heap.size w w' := by
 have hu := hide (use_r w y s A hT hg)
 obtain ⟨c0, vr, vc, vl, rl, cl, h, rfl⟩ := hT
 have HL := hide (fun W (hW : Below w.heap.size w W) => And.intro (h.later hW).q1 (h.later hW).lt)
 clear h hg
 go_enter Tryz.func108, Tryz.ntmps108
 go_wp2_with fail
 refine hu.out.mono ?_
 rintro _ w2 ⟨rfl, hb2⟩
 obtain ⟨e1, z1⟩ := HL.out w2 hb2
 have HB := hide hb2
 clear hb2 hu HL
 by_cases hc : s.b < s.use
 ·have fin := hide (show (decide (s.b < s.use) && decide (n < s.use)) = decide (n < s.use) by rw [decide_eq_true hc]; rfl)
  go_wp2
  go_ret
  exact ⟨by rw [fin.out]; rfl, HB.out⟩
 ·have dc : decide (s.b < s.use) = false := decide_eq_false hc
  have fin := hide (show (decide (s.b < s.use) && decide (n < s.use)) = false by rw [dc]; rfl)
  go_wp2
  go_ret
  exact ⟨by rw [fin.out]; rfl, HB.out⟩
theorem RefT.over {w W : World} {y : Nat} {s s' : TS} {c0 : Int} {vr vc vl : Value} {rl cl : List Ent} (h : RefT w y s c0 vr vc vl rl cl) (hx : s'.xs = s.xs) (hm : s'.mv = none) (hb : W.heap[y]? = some (.cells (refB c0 s' vr (.slice none 0 0) (.slice none 0 0)) 122 (0, 0))) (ho : Only [y] w W) : RefT W y s' c0 vr (.slice none 0 0) (.slice none 0 0) rl [] :=
 ⟨hb, h.rr.kept fun g hg => ho.block g (h.rr.lt g hg) (by simp; exact fun e => h.y1 (by rw [hg, e])), by rw [hx]; exact h.rep, RowG.nil _ _ _, by rw [hm]; exact Rep.nil, by rw [hm]; exact RowL.nil _, h.y1, by simp [Value.ownBlock], by simp [Value.ownBlock], (fun g hg => by cases hg), (fun g hg => by cases hg)⟩
theorem set6 (v0 v1 v2 v3 v4 v5 v6 v7 v8 v9 v10 v11 v12 v13 x6 x7 x8 x9 x10 x11 : Value) : ((((((#[v0, v1, v2, v3, v4, v5, v6, v7, v8, v9, v10, v11, v12, v13].setIfInBounds 6 x6).setIfInBounds 7 x7).setIfInBounds 8 x8).setIfInBounds 9 x9).setIfInBounds 10 x10).setIfInBounds 11 x11) = #[v0, v1, v2, v3, v4, v5, x6, x7, x8, x9, x10, x11, v12, v13] := by simp
theorem set13 (v0 v1 v2 v3 v4 v5 v6 v7 v8 v9 v10 v11 v12 v13 x : Value) : #[v0, v1, v2, v3, v4, v5, v6, v7, v8, v9, v10, v11, v12, v13].setIfInBounds 13 x = #[v0, v1, v2, v3, v4, v5, v6, v7, v8, v9, v10, v11, v12, x] := by simp
theorem set1 (v0 v1 v2 v3 v4 v5 v6 v7 v8 v9 v10 v11 v12 v13 x : Value) : #[v0, v1, v2, v3, v4, v5, v6, v7, v8, v9, v10, v11, v12, v13].setIfInBounds 1 x = #[v0, x, v2, v3, v4, v5, v6, v7, v8, v9, v10, v11, v12, v13] := by simp
theorem onlyY (w : World) (y o : Nat) (v : Value) : Only [y] w (w.setCell ⟨y, o, none⟩ v) := ⟨rfl, rfl, rfl, by simp [World.setCell], fun k _ hn => Below.heap_setCell _ _ _ _ (by simpa using hn)⟩
theorem Only.andY {w w' : World} {y : Nat} (h : Only [y] w w') (o : Nat) (v : Value) : Only [y] w (w'.setCell ⟨y, o, none⟩ v) := h.trans (onlyY w' y o v) fun _ hx => .inl hx
theorem RefT.ended {w : World} {y : Nat} {s : TS} {c0 : Int} {vr vc vl : Value} {rl cl : List Ent} (h : RefT w y s c0 vr vc vl rl cl) : RefT ((((((w.setCell ⟨y, 6, none⟩ (.int .i64 0)).setCell ⟨y, 7, none⟩ (.int .i64 0)).setCell ⟨y, 8, none⟩ (.slice none 0 0)).setCell ⟨y, 9, none⟩ (.int .i64 (-1))).setCell ⟨y, 10, none⟩ (.int .i64 0)).setCell ⟨y, 11, none⟩ (.slice none 0 0)) y { s with mv := none } c0 vr (.slice none 0 0) (.slice none 0 0) rl [] /\ Only [y] w ((((((w.setCell ⟨y, 6, none⟩ (.int .i64 0)).setCell ⟨y, 7, none⟩ (.int .i64 0)).setCell ⟨y, 8, none⟩ (.slice none 0 0)).setCell ⟨y, 9, none⟩ (.int .i64 (-1))).setCell ⟨y, 10, none⟩ (.int .i64 0)).setCell ⟨y, 11, none⟩ (.slice none 0 0)) := by
 have a1 := (setT h.blk 6 (.int .i64 0)).1
 have b1 := (setT a1 7 (.int .i64 0)).1
 have c1 := (setT b1 8 (.slice none 0 0)).1
 have d1 := (setT c1 9 (.int .i64 (-1))).1
 have f1 := (setT d1 10 (.int .i64 0)).1
 have g1 := (setT f1 11 (.slice none 0 0)).1
 rw [set6] at g1
 have ho := (((((onlyY w y 6 (.int .i64 0)).andY 7 (.int .i64 0)).andY 8 (.slice none 0 0)).andY 9 (.int .i64 (-1))).andY 10 (.int .i64 0)).andY 11 (.slice none 0 0)
 exact ⟨h.over (s' := { s with mv := none }) rfl rfl g1 ho, ho⟩
set_option maxHeartbeats 1000000 in
theorem ends_r (w : World) (y : Nat) (s : TS) (c0 : Int) (vr vc vl : Value) (rl cl : List Ent) (h : RefT w y s c0 vr vc vl rl cl) :
  Calls Tryz.prog 110 #[ptrV y] w fun r w' => r = .returned (.tuple #[]) /\ RefT w' y { s with mv := none } c0 vr (.slice none 0 0) (.slice none 0 0) rl [] /\ Only [y] w w' := by
 have yl := h.lt
 have e6 := h.q6
 have e7 := h.q7
 have e8 := h.q8
 have e9 := h.q9
 have e10 := h.q10
 have e11 := h.q11
 have ef := h.fz
 obtain ⟨ca, cc, hcv⟩ := h.cr.shape
 obtain ⟨la, lc, hlv⟩ := h.lr.shape
 have fin := hide h.ended
 subst hcv
 subst hlv
 clear h
 go_enter Tryz.func110, Tryz.ntmps110
 go_wp2
 go_end0
 exact ⟨rfl, fin.out.1, fin.out.2⟩
set_option maxHeartbeats 400000 in
theorem back_rT (w : World) (y : Nat) (s : TS) (c0 : Int) (vr vc vl : Value) (rl cl : List Ent) (h : RefT w y s c0 vr vc vl rl cl) :
  Calls Tryz.prog 109 #[ptrV y] w fun r w' => r = .returned (.tuple #[]) /\ RefT w' y s.back c0 vr (.slice none 0 0) (.slice none 0 0) rl [] /\ Only [y] w w' := by
 have hc := hide (ends_r w y s c0 vr vc vl rl cl h)
 clear h
 go_enter Tryz.func109, Tryz.ntmps109
 go_wp2_with fail
 refine hc.out.mono ?_
 rintro _ w2 ⟨rfl, h2, ho⟩
 have yl := h2.lt
 have e13 := h2.q13
 have ef := h2.fz
 have fin := hide (show RefT (w2.setCell ⟨y, 13, none⟩ (.int .i64 (wrap64 (s.bs + 1)))) y s.back c0 vr (.slice none 0 0) (.slice none 0 0) rl [] /\ Only [y] w (w2.setCell ⟨y, 13, none⟩ (.int .i64 (wrap64 (s.bs + 1)))) from by
  have a1 := (setT h2.blk 13 (.int .i64 (wrap64 (s.bs + 1)))).1
  rw [set13] at a1
  exact ⟨h2.over (s' := s.back) rfl rfl a1 (onlyY _ _ _ _), ho.andY _ _⟩)
 clear h2 ho hc
 go_wp2
 go_end0
 exact ⟨rfl, fin.out.1, fin.out.2⟩
theorem RTurn.ofY {w w' : World} {y : Nat} {s' : TS} {c0 : Int} {vr vc vl vc' vl' : Value} {rl cl' : List Ent} {v : Value} (h : RefT w' y s' c0 vr vc' vl' rl cl') (ho : Only [y] w w') (hc : vc'.ownBlock = none ∨ vc' = vc) (hl : vl'.ownBlock = none ∨ vl' = vl) : RTurn w y (refA y vr vc vl) v s' (.returned v) w' :=
 ⟨_, rfl, ⟨c0, vr, vc', vl', rl, cl', h, rfl⟩, fun k hk => .inl (refA_mem.2 (by
  rcases refA_mem.1 hk with h1 | h1 | h1 | h1
  ·exact .inl h1
  ·exact .inr (.inl h1)
  ·rcases hc with hc | hc
   ·rw [hc] at h1; cases h1
   ·exact .inr (.inr (.inl (by rw [<- hc]; exact h1)))
  ·rcases hl with hl | hl
   ·rw [hl] at h1; cases h1
   ·exact .inr (.inr (.inr (by rw [<- hl]; exact h1))))), ho.mono fun x hx _ => by simp at hx; exact refA_mem.2 (.inl hx)⟩
theorem back_r (w : World) (y : Nat) (s : TS) (A : List Nat) (hT : RT w y s A) : Calls Tryz.prog 109 #[ptrV y] w (RTurn w y A (.tuple #[]) s.back) := by
 obtain ⟨c0, vr, vc, vl, rl, cl, h, rfl⟩ := hT
 refine (back_rT w y s c0 vr vc vl rl cl h).mono ?_
 rintro r w' ⟨rfl, h1, h2⟩
 exact RTurn.ofY h1 h2 (.inl rfl) (.inl rfl)
set_option maxHeartbeats 400000 in
theorem abort_r (w : World) (y : Nat) (s : TS) (A : List Nat) (hT : RT w y s A) (hg : Good s) :
  Calls Tryz.prog 69 #[ptrV y] w (RTurn w y A (.int .i64 s.abort.1) s.abort.2) := by
 have hc := hide (back_r w y s A hT)
 have HT := hide hT
 obtain ⟨c0, vr, vc, vl, rl, cl, h, rfl⟩ := hT
 have e6 := h.q6
 have yl := h.lt
 clear h
 cases hm : s.mv with
 | none =>
  have ea : s.abort = (10, s) := by unfold TS.abort; rw [hm]
  rw [ea]
  rw [hm, show knM none = 0 from rfl] at e6
  have fin := hide (show RTurn w y (refA y vr vc vl) (.int .i64 10) s (.returned (.int .i64 10)) w from ⟨_, rfl, HT.out, NewF.refl _ _, Only.refl _ _⟩)
  clear hg hm ea
  go_enter Tryz.func69, Tryz.ntmps69
  go_wp2
  go_ret
  exact fin.out
 | some m =>
  have ea : s.abort = (0, s.back) := by unfold TS.abort; rw [hm]
  rw [ea]
  rw [hm, show knM (some m) = m.k from rfl] at e6
  have hk := (hg.mv m hm).2.2.1
  have d0 : (m.k == 0) = false := by simp; omega
  clear hg hm ea hk
  go_enter Tryz.func69, Tryz.ntmps69
  go_wp2_with fail
  refine hc.out.mono ?_
  rintro _ w2 ⟨A', rfl, h1, h2, h3⟩
  have fin := hide (show RTurn w y (refA y vr vc vl) (.int .i64 0) s.back (.returned (.int .i64 0)) w2 from ⟨A', rfl, h1, h2, h3⟩)
  clear h1 h2 h3 hc
  go_wp2
  go_ret
  exact fin.out
set_option maxHeartbeats 400000 in
theorem setb_r (w : World) (y : Nat) (s : TS) (A : List Nat) (n : Int) (hT : RT w y s A) :
  Calls Tryz.prog 116 #[ptrV y, .int .i64 n] w (RTurn w y A (.int .i64 (s.setb n).1) (s.setb n).2) := by
 have HT := hide hT
 obtain ⟨c0, vr, vc, vl, rl, cl, h, rfl⟩ := hT
 have e1 := h.q1
 have ef := h.fz
 have yl := h.lt
 unfold TS.setb
 by_cases hn : 1 <= n /\ n <= 400
 ·rw [if_pos hn]
  have fin := hide (show RTurn w y (refA y vr vc vl) (.int .i64 0) { s with b := n } (.returned (.int .i64 0)) (w.setCell ⟨y, 1, none⟩ (.int .i64 n)) from by
   obtain ⟨a1, a2, a3⟩ := setT h.blk 1 (.int .i64 n)
   rw [set1] at a1
   have ho2 := onlyY w y 1 (.int .i64 n)
   have hk : ∀ g, g ≠ y -> (w.setCell ⟨y, 1, none⟩ (.int .i64 n)).heap[g]? = w.heap[g]? := a2
   exact RTurn.ofY (cl' := cl) ⟨a1, h.rr.kept fun g hg => hk g fun e => h.y1 (by rw [hg, e]), h.rep, h.cr.kept fun g hg => hk g fun e => h.y2 (by rw [hg, e]), h.cep, h.lr.kept fun g hg => hk g fun e => h.y3 (by rw [hg, e]), h.y1, h.y2, h.y3, h.l1, h.l2⟩ ho2 (.inr rfl) (.inr rfl))
  obtain ⟨n1, n2⟩ := hn
  have d1 : decide (n < 1) = false := decide_eq_false (by omega)
  have d2 : decide (400 < n) = false := decide_eq_false (by omega)
  clear h n1 n2
  go_enter Tryz.func116, Tryz.ntmps116
  go_wp2
  go_ret
  exact fin.out
 ·rw [if_neg hn]
  have fin := hide (show RTurn w y (refA y vr vc vl) (.int .i64 11) s (.returned (.int .i64 11)) w from ⟨_, rfl, HT.out, NewF.refl _ _, Only.refl _ _⟩)
  have hcs : n < 1 ∨ (¬ n < 1 /\ 400 < n) := by omega
  clear h hn
  rcases hcs with h1 | ⟨h1, h2⟩
  ·have d1 : decide (n < 1) = true := decide_eq_true h1
   go_enter Tryz.func116, Tryz.ntmps116
   go_wp2
   go_ret
   exact fin.out
  ·have d1 : decide (n < 1) = false := decide_eq_false h1
   have d2 : decide (400 < n) = true := decide_eq_true h2
   go_enter Tryz.func116, Tryz.ntmps116
   go_wp2
   go_ret
   exact fin.out
end Go.Proofs.YtglbamalagacgaaGreat

namespace Go.Proofs.YtglbamalagacgaaGreat
open Go.RowKit Go.Shelf
attribute [local go_sem] Oper.semAt_some
theorem RefT.rlen {w : World} {y : Nat} {s : TS} {c0 : Int} {vr vc vl : Value} {rl cl : List Ent} (h : RefT w y s c0 vr vc vl rl cl) (hg : Good s) : rl.length <= 2304 := by
 rw [h.rep.len hg.xs]; exact ok_len hg.xs hg.ok
theorem RefT.rok {w : World} {y : Nat} {s : TS} {c0 : Int} {vr vc vl : Value} {rl cl : List Ent} (h : RefT w y s c0 vr vc vl rl cl) (hg : Good s) : ∀ x ∈ rl, okE x := fun x hx => hg.ok x ((h.rep.mem x).1 hx)
set_option maxRecDepth 4000 in
set_option maxHeartbeats 1000000 in
theorem get_r (w : World) (y : Nat) (s : TS) (A : List Nat) (a l : Int) (hT : RT w y s A) (hg : Good s) :
  Calls Tryz.prog 114 #[ptrV y, pfxV a l] w fun r w' => r = .returned (.tuple #[.int .i64 (getR s.xs a l).1, .int .i64 (getR s.xs a l).2]) /\ Below w.heap.size w w' := by
 obtain ⟨c0, vr, vc, vl, rl, cl, h, rfl⟩ := hT
 have hB : Below w.heap.size w (w.alloc (.cells #[.int .i64 a, .int .i64 l] 65)) := (Below.refl _ w).alloc (Nat.le_refl _) _
 have HB := hide hB
 have hpr := hide (fun W => proper_r a l W)
 have yl := h.lt
 by_cases h1 : isPfx a l = false
 ·have e1 : getR s.xs a l = (0, 2) := by unfold getR; rw [if_pos h1]
  rw [e1]
  rw [h1] at hpr
  clear h hB e1
  go_enter Tryz.func114, Tryz.ntmps114
  go_wp2_with fail
  refine (hpr.out _).mono ?_
  rintro _ _ ⟨rfl, rfl⟩
  go_wp2
  go_ret2
  exact ⟨rfl, HB.out⟩
 have hp : isPfx a l = true := by simpa using h1
 rw [hp] at hpr
 have hrl := h.rlen hg
 have h2 := h.later hB
 have e5 := h2.q5
 have hfd := hide (find_r (w.alloc (.cells #[.int .i64 a, .int .i64 l] 65)).drew vr rl a l (h2.rr.kept fun _ _ => rfl) (by omega))
 have hfi := h.rep.find hg.xs a l
 have HL := hide (fun W (hW : Below w.heap.size w W) => And.intro (h.later hW).q5 (h.later hW).rr)
 obtain ⟨ra, rc, rfl⟩ := h.rr.shape
 have e1 : getR s.xs a l = if getE s.xs a l = none then (0, 5) else (orZ (getE s.xs a l), 0) := by unfold getR; rw [if_neg h1]
 rw [e1]
 clear h h2 hB e1 h1
 rcases hfi with ⟨f1, f2⟩ | ⟨i, n, f1, f2, f3⟩
 ·rw [if_pos f2]
  rw [f1, show iU none = -1 from rfl] at hfd
  clear f1 f2 HL
  go_enter Tryz.func114, Tryz.ntmps114
  go_wp2_with fail
  refine (hpr.out _).mono ?_
  rintro _ _ ⟨rfl, rfl⟩
  go_wp2
  go_region_held3 (fun w' => w'.cell? ⟨y, 5, none⟩ = some (.slice ra rl.length rc) /\ w'.cell? ⟨w.heap.size, 0, none⟩ = some (.int .i64 a) /\ w'.cell? ⟨w.heap.size, 1, none⟩ = some (.int .i64 l)) (go_keep)
   (first | (go_at_call 105; refine hfd.out.mono ?_; rintro _ w5 ⟨rfl, hb5⟩; (have u1 : ∀ o, w5.cell? ⟨y, o, none⟩ = (w.alloc (.cells #[.int .i64 a, .int .i64 l] 65)).cell? ⟨y, o, none⟩ := fun o => hb5.cell (p := ⟨y, o, none⟩) (by simp; omega)); (have u2 : ∀ o, w5.cell? ⟨w.heap.size, o, none⟩ = (w.alloc (.cells #[.int .i64 a, .int .i64 l] 65)).cell? ⟨w.heap.size, o, none⟩ := fun o => hb5.cell (p := ⟨w.heap.size, o, none⟩) (by simp))))
  have fin := hide (show Below w.heap.size w w5 from HB.out.trans (((Below.refl _ _).drew.trans hb5).mono HB.out.size))
  clear hb5 u1 u2 hfd
  go_wp2
  go_ret2
  exact ⟨rfl, fin.out⟩
 ·rw [if_neg (by rw [f3]; simp), f3, show orZ (some n) = n from rfl]
  rw [f1, show iU (some i) = (i : Int) from rfl] at hfd
  have hil := (List.getElem?_eq_some_iff.1 f2).1
  have i0 : (0 : Int) <= (i : Int) := by omega
  have i1 : (i : Int) < (rl.length : Int) := by omega
  have di : decide ((i : Int) < 0) = false := decide_eq_false (by omega)
  have HF := hide f2
  clear f1 f2 f3
  go_enter Tryz.func114, Tryz.ntmps114
  go_wp2_with fail
  refine (hpr.out _).mono ?_
  rintro _ _ ⟨rfl, rfl⟩
  go_wp2
  go_region_held3 (fun w' => w'.cell? ⟨y, 5, none⟩ = some (.slice ra rl.length rc) /\ w'.cell? ⟨w.heap.size, 0, none⟩ = some (.int .i64 a) /\ w'.cell? ⟨w.heap.size, 1, none⟩ = some (.int .i64 l)) (go_keep)
   (first | (go_at_call 105; refine hfd.out.mono ?_; rintro _ w5 ⟨rfl, hb5⟩; (have u1 : ∀ o, w5.cell? ⟨y, o, none⟩ = (w.alloc (.cells #[.int .i64 a, .int .i64 l] 65)).cell? ⟨y, o, none⟩ := fun o => hb5.cell (p := ⟨y, o, none⟩) (by simp; omega)); (have u2 : ∀ o, w5.cell? ⟨w.heap.size, o, none⟩ = (w.alloc (.cells #[.int .i64 a, .int .i64 l] 65)).cell? ⟨w.heap.size, o, none⟩ := fun o => hb5.cell (p := ⟨w.heap.size, o, none⟩) (by simp))))
  have hbw : Below w.heap.size w w5 := HB.out.trans (((Below.refl _ _).drew.trans hb5).mono HB.out.size)
  obtain ⟨q5, qr⟩ := HL.out w5 hbw
  obtain ⟨g1, eg, r0, r1, r2, r3⟩ := rowG_rte qr HF.out
  subst eg
  have z1 : y < w5.heap.size := by have := hbw.size; omega
  have fin := hide hbw
  clear hb5 u1 u2 hfd hbw qr r1 r2
  go_wp2
  go_ret2
  exact ⟨rfl, fin.out⟩
set_option maxRecDepth 4000 in
set_option maxHeartbeats 1000000 in
theorem look_r (w : World) (y : Nat) (s : TS) (A : List Nat) (a : Int) (hT : RT w y s A) (hg : Good s) :
  Calls Tryz.prog 115 #[ptrV y, .int .i64 a] w fun r w' => r = .returned (.tuple #[rteV (lookR s.xs a).1.a (lookR s.xs a).1.l (lookR s.xs a).1.n, .int .i64 (lookR s.xs a).2]) /\ Below w.heap.size w w' := by
 obtain ⟨c0, vr, vc, vl, rl, cl, h, rfl⟩ := hT
 have yl := h.lt
 by_cases h1 : ¬ (0 <= a /\ a < 256)
 ·have e1 : lookR s.xs a = (⟨0, 0, 0⟩, 4) := by unfold lookR; rw [if_pos h1]
  rw [e1]
  have hcs : a < 0 ∨ (¬ a < 0 /\ 255 < a) := by omega
  clear h e1 h1
  rcases hcs with c1 | ⟨c1, c2⟩
  ·have d1 : decide (a < 0) = true := decide_eq_true c1
   go_enter Tryz.func115, Tryz.ntmps115
   go_wp2
   refine bodyPost_ret (v := .tuple #[rteV 0 0 0, .int .i64 4]) (by simp [results, Tryz.results115, go_sem]) rfl ⟨rfl, (by repeat (first | exact Below.refl _ _ | refine below_drewN ?_ _ | refine Below.drew ?_ | refine Below.trans ?_ (Below.mono (by assumption) ?_) | refine Below.alloc ?_ ?_ _ | refine Below.setCell ?_ ?_ _ | omega | (simp; omega) | simp))⟩
  ·have d1 : decide (a < 0) = false := decide_eq_false c1
   have d2 : decide (255 < a) = true := decide_eq_true c2
   go_enter Tryz.func115, Tryz.ntmps115
   go_wp2
   refine bodyPost_ret (v := .tuple #[rteV 0 0 0, .int .i64 4]) (by simp [results, Tryz.results115, go_sem]) rfl ⟨rfl, (by repeat (first | exact Below.refl _ _ | refine below_drewN ?_ _ | refine Below.drew ?_ | refine Below.trans ?_ (Below.mono (by assumption) ?_) | refine Below.alloc ?_ ?_ _ | refine Below.setCell ?_ ?_ _ | omega | (simp; omega) | simp))⟩
 have h1' := Decidable.not_not.1 h1
 have d1 : decide (a < 0) = false := decide_eq_false (by omega)
 have d2 : decide (255 < a) = false := decide_eq_false (by omega)
 have hB : Below w.heap.size w (w.alloc (.cells #[.int .i64 0, .int .i64 0, .int .i64 0] 90)) := (Below.refl _ w).alloc (Nat.le_refl _) _
 have h2 := h.later hB
 have hrl := h.rlen hg
 have e5 := h2.q5
 have hbs := hide (best_r (w.alloc (.cells #[.int .i64 0, .int .i64 0, .int .i64 0] 90)) vr rl a h2.rr (by omega) (h.rok hg))
 have HBE := hide (fun b (hb : BestI rl a rl.length b) => h.rep.best hg.xs hg.ok h1'.1 hb)
 have HL := hide (fun W (hW : Below w.heap.size w W) => And.intro (h.later hW).q5 (h.later hW).rr)
 have HLN := hide (show bestE s.xs a = none -> lookR s.xs a = (⟨0, 0, 0⟩, 5) from fun he => by unfold lookR; rw [if_neg h1, he])
 have HLS := hide (show ∀ x, bestE s.xs a = some x -> lookR s.xs a = (x, 0) from fun x he => by unfold lookR; rw [if_neg h1, he])
 obtain ⟨ra, rc, rfl⟩ := h.rr.shape
 have HB := hide hB
 clear h h2 hB h1
 go_enter Tryz.func115, Tryz.ntmps115
 go_wp2_with fail
 refine hbs.out.mono ?_
 rintro _ w3 ⟨⟨b, rfl, hb⟩, hb3⟩
 have hbe := HBE.out b hb
 have r0 : w3.cell? ⟨w.heap.size, 0, none⟩ = some (.int .i64 0) := (hb3.cell (p := ⟨w.heap.size, 0, none⟩) (by simp)).trans (by simp)
 have r1 : w3.cell? ⟨w.heap.size, 1, none⟩ = some (.int .i64 0) := (hb3.cell (p := ⟨w.heap.size, 1, none⟩) (by simp)).trans (by simp)
 have r2 : w3.cell? ⟨w.heap.size, 2, none⟩ = some (.int .i64 0) := (hb3.cell (p := ⟨w.heap.size, 2, none⟩) (by simp)).trans (by simp)
 have rf : ∀ o, w3.frozen? ⟨w.heap.size, o, none⟩ = false := fun o => (hb3.frozen (p := ⟨w.heap.size, o, none⟩) (by simp)).trans (by simp [go_sem])
 have zz : w.heap.size < w3.heap.size := by have := hb3.size; simp at this; omega
 have hbw : Below w.heap.size w w3 := HB.out.trans (hb3.mono HB.out.size)
 have HB3 := hide hbw
 obtain ⟨q5, qr⟩ := HL.out w3 hbw
 have z1 : y < w3.heap.size := by have := hbw.size; omega
 clear hb3 hbs HL HBE hb hbw
 rcases hbe with ⟨rfl, he⟩ | ⟨k, x, rfl, hkl, hx, he⟩
 ·have HQ := hide (HLN.out he)
  clear qr he
  go_wp2
  refine bodyPost_ret (v := .tuple #[rteV 0 0 0, .int .i64 5]) (by simp [results, Tryz.results115, go_sem, *]) rfl ⟨by rw [HQ.out], ?_⟩
  exact Below.setCell (Below.setCell (Below.setCell HB3.out (Nat.le_refl _) _) (Nat.le_refl _) _) (Nat.le_refl _) _
 ·have HQ := hide (HLS.out x he)
  obtain ⟨g1, eg, s0, s1, s2, s3⟩ := rowG_rte qr hx
  subst eg
  have i0 : (0 : Int) <= (k : Int) := by omega
  have i1 : (k : Int) < (rl.length : Int) := by omega
  have di : decide ((k : Int) < 0) = false := decide_eq_false (by omega)
  obtain ⟨xa, xl, xn⟩ := x
  clear qr he hx
  go_wp2
  refine bodyPost_ret (v := .tuple #[rteV xa xl xn, .int .i64 0]) (by simp [results, Tryz.results115, go_sem, *]) rfl ⟨by rw [HQ.out], ?_⟩
  exact Below.setCell (Below.setCell (Below.setCell HB3.out (Nat.le_refl _) _) (Nat.le_refl _) _) (Nat.le_refl _) _
end Go.Proofs.YtglbamalagacgaaGreat

namespace Go.Proofs.YtglbamalagacgaaGreat
open Go.RowKit Go.Shelf
attribute [local go_sem] Oper.semAt_some
theorem Rep.longs {ls xs : List Ent} (h : Rep ls xs) (hs : Sorted xs) : longs ls = longs xs :=
 dist_len (List.Pairwise.filter _ h.dist) (List.Pairwise.filter _ (sorted_dist hs)) fun x => by rw [List.mem_filter, List.mem_filter, h.mem]
theorem longs_take {ls : List Ent} {j : Nat} {x : Ent} (hx : ls[j]? = some x) : longs (ls.take (j + 1)) = if 5 <= x.l then longs (ls.take j) + 1 else longs (ls.take j) := by
 obtain ⟨h1, h2⟩ := List.getElem?_eq_some_iff.1 hx
 unfold longs
 rw [List.take_succ_eq_append_getElem h1, List.filter_append, h2]
 by_cases hk : 5 <= x.l
 ·simp [hk]
 ·simp [hk]
set_option maxRecDepth 4000 in
set_option maxHeartbeats 1000000 in
theorem adv_r (w : World) (y : Nat) (s : TS) (A : List Nat) (hT : RT w y s A) (hg : Good s) :
  Calls Tryz.prog 66 #[ptrV y] w fun r w' => r = .returned (.int .i64 (advR s.xs)) /\ Below w.heap.size w w' := by
 obtain ⟨c0, vr, vc, vl, rl, cl, h, rfl⟩ := hT
 have yl := h.lt
 have e5 := h.q5
 have hrl := h.rlen hg
 have hln := h.rep.len hg.xs
 have hlo := h.rep.longs hg.xs
 have HL := hide (fun W (hW : Below w.heap.size w W) => And.intro (h.later hW).q5 (And.intro (h.later hW).rr (h.later hW).lt))
 have HA := hide (show advR s.xs = if rl.length <= 8 then 1 else if rl.length < 2 * longs rl then 2 else 3 by unfold advR; rw [hln, hlo])
 have hlg : longs rl <= rl.length := longs_le rl
 obtain ⟨ra, rc, rfl⟩ := h.rr.shape
 clear h hg hln hlo
 go_enter Tryz.func66, Tryz.ntmps66
 go_wp2
 go_loopw [4, 5] (fun s4 s5 wr => ∃ j : Nat, j <= rl.length /\ s4 = .int .i64 (longs (rl.take j) : Nat) /\ s5 = .int .i64 (j : Int) /\ Hid (Below w.heap.size w wr)) (fun _ s5 _ => rl.length - (intOf s5).toNat)
 case atStart => exact ⟨0, by omega, rfl, rfl, hide (Below.refl _ _)⟩
 case round =>
  obtain ⟨j, hj, rfl, rfl, HB⟩ := hrel
  by_cases hlt : j < rl.length
  ·obtain ⟨x, hx⟩ : ∃ x, rl[j]? = some x := ⟨_, List.getElem?_eq_getElem hlt⟩
   obtain ⟨q5, qr, z1⟩ := HL.out wr HB.out
   obtain ⟨g1, eg, s0, s1, s2, s3⟩ := rowG_rte qr hx
   subst eg
   have l0 : (0 : Int) <= (j : Int) := by omega
   have l1 : (j : Int) < (rl.length : Int) := by omega
   have hw4 : IntKind.i64.wrap ((j : Int) + 1) = (j : Int) + 1 := by rw [IntKind.wrap_i64]; omega
   have hlt2 := longs_le (rl.take j)
   have hlt3 : (rl.take j).length <= rl.length := by rw [List.length_take]; omega
   have hw5 : IntKind.i64.wrap ((longs (rl.take j) : Int) + 1) = (longs (rl.take j) : Int) + 1 := by rw [IntKind.wrap_i64]; omega
   have htk := longs_take hx
   by_cases hc : 5 <= x.l
   ·rw [if_pos hc] at htk
    have dc : decide (4 < x.l) = true := decide_eq_true (by omega)
    have next := hide (show ∃ j' : Nat, j' <= rl.length /\ Value.int .i64 ((longs (rl.take j) : Int) + 1) = .int .i64 (longs (rl.take j') : Nat) /\ Value.int .i64 ((j : Int) + 1) = .int .i64 (j' : Int) /\ Hid (Below w.heap.size w wr) from ⟨j + 1, by omega, by rw [htk]; simp, by simp, HB⟩)
    clear htk hx qr hlt2 hlt3 hc s1 s3
    go_wp2
    exact ⟨next.out, by simp [intOf]; omega⟩
   ·rw [if_neg hc] at htk
    have dc : decide (4 < x.l) = false := decide_eq_false (by omega)
    have next := hide (show ∃ j' : Nat, j' <= rl.length /\ Value.int .i64 (longs (rl.take j) : Nat) = .int .i64 (longs (rl.take j') : Nat) /\ Value.int .i64 ((j : Int) + 1) = .int .i64 (j' : Int) /\ Hid (Below w.heap.size w wr) from ⟨j + 1, by omega, by rw [htk], by simp, HB⟩)
    clear htk hx qr hlt2 hlt3 hc s1 s3
    go_wp2
    exact ⟨next.out, by simp [intOf]; omega⟩
  ·obtain rfl : j = rl.length := by omega
   rw [List.take_length]
   have hw6 : IntKind.i64.wrap ((rl.length : Int) - (longs rl : Nat)) = (rl.length : Int) - (longs rl : Nat) := by rw [IntKind.wrap_i64]; omega
   by_cases c1 : rl.length <= 8
   ·have d1 : decide ((rl.length : Int) <= 8) = true := decide_eq_true (by omega)
    have fin := hide (show advR s.xs = 1 by rw [HA.out, if_pos c1])
    go_wp2
    go_ret
    exact ⟨by rw [fin.out]; rfl, HB.out⟩
   ·have d1 : decide ((rl.length : Int) <= 8) = false := decide_eq_false (by omega)
    by_cases c2 : rl.length < 2 * longs rl
    ·have d2 : decide ((rl.length : Int) - (longs rl : Nat) < (longs rl : Nat)) = true := decide_eq_true (by omega)
     have fin := hide (show advR s.xs = 2 by rw [HA.out, if_neg c1, if_pos c2])
     go_wp2
     go_ret
     exact ⟨by rw [fin.out]; rfl, HB.out⟩
    ·have d2 : decide ((rl.length : Int) - (longs rl : Nat) < (longs rl : Nat)) = false := decide_eq_false (by omega)
     have fin := hide (show advR s.xs = 3 by rw [HA.out, if_neg c1, if_neg c2])
     go_wp2
     go_ret
     exact ⟨by rw [fin.out]; rfl, HB.out⟩
end Go.Proofs.YtglbamalagacgaaGreat

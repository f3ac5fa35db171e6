import Derived.Test.YtglbamalagacgaaGreatE1
import Derived.Test.YtglbamalagacgaaGreatL2
import Derived.Test.YtglbamalagacgaaGreatL3
import Derived.Test.YtglbamalagacgaaGreatS2
import Derived.Test.YtglbamalagacgaaGreatT1
namespace Go.Proofs.YtglbamalagacgaaGreat
open Go.RowKit Go.Shelf

attribute [local go_sem] Oper.semAt_some

theorem getE_memS {xs : List Ent} {a l v : Int} (h : getE xs a l = some v) : ∃ y ∈ xs, y.a = a ∧ y.l = l ∧ y.n = v := by
  induction xs with
  | nil => cases h
  | cons x xs ih =>
    rw [getE] at h
    split at h
    · rename_i he
      cases h
      exact ⟨x, by simp, he.1, he.2, rfl⟩
    · obtain ⟨y, h1, h2⟩ := ih h
      exact ⟨y, by simp [h1], h2⟩
theorem getE_of_memS {xs : List Ent} (hs : Sorted xs) {x : Ent} (hx : x ∈ xs) : getE xs x.a x.l = some x.n := by
  induction xs with
  | nil => cases hx
  | cons y ys ih =>
    obtain ⟨h1, h2⟩ := sorted_tail hs
    rw [getE]
    rcases List.mem_cons.1 hx with rfl | hx
    · rw [if_pos ⟨rfl, rfl⟩]
    · have := h2 x hx
      rw [if_neg (by unfold klt at this; omega)]
      exact ih h1 hx
def blI (o : Option Nat) : Int := match o with
  | none => -1
  | some m => (m : Int)
theorem rank_nat {a l : Int} (h : isPfx a l = true) : ∃ k : Nat, k < 2304 ∧ 9 * a + l = (k : Int) ∧ (9 * a + l).toNat = k := by
  have := (isPfx_iff _ _).1 h
  exact ⟨(9 * a + l).toNat, by omega, by omega, rfl⟩
set_option maxHeartbeats 1000000 in
theorem bookBest_any (w : World) (bk g t : Nat) (cf : Cfg) (rs : Nat → Int) (xs : List Ent) (a : Int) (hB : BookF w bk g t cf rs) (ht : Tie rs xs) (hk : ∀ x ∈ xs, okE x) (h0 : 0 ≤ a) (h1 : a < 256) :
    Calls Tryz.prog 40 #[ptrV bk, .int .i64 a] w fun r w' => r = .returned (.int .i64 (blI (blN xs a 9))) ∧ Below w.heap.size w w' := by
  have bl := hB.lt.1
  have HB := hide hB
  have HT := hide ht
  clear hB ht
  go_enter Tryz.func40, Tryz.ntmps40
  go_wp2
  go_loopw [5] (fun sl wr => ∃ j : Nat, j ≤ 9 ∧ sl = .int .i64 ((j : Int) - 1) ∧ blN xs a 9 = blN xs a j ∧ Hid (Below w.heap.size w wr)) (fun s _ => (intOf s + 1).toNat)
  case atStart => exact ⟨9, by omega, by simp, rfl, Below.refl _ _⟩
  case round =>
    obtain ⟨j, hj, rfl, hbl, HBr⟩ := hrel
    cases j with
    | zero =>
      have d0 : decide ((0 : Int) ≤ ((0 : Nat) : Int) - 1) = false := by decide
      have hm : ((0 : Nat) : Int) - 1 = -1 := by omega
      rw [hm]
      have HBL := hide hbl
      clear d0 hm hbl
      go_wp2
      go_ret
      exact ⟨by rw [HBL.out]; rfl, HBr.out⟩
    | succ m =>
      have hm : ((m + 1 : Nat) : Int) - 1 = (m : Int) := by omega
      rw [hm]
      have d0 : (0 : Int) ≤ (m : Int) := by omega
      have d8 : (m : Int) ≤ 8 := by omega
      have hw0 := (wid_bd m).1
      have hw1 := (wid_bd m).2
      have hwn : ¬ wid m = 0 := by omega
      have hmn := Int.emod_nonneg a hwn
      have hml := Int.emod_lt_of_pos a hw0
      have hcb := cov_bd a m h0
      have hcv : a - a % wid m = cov a m := rfl
      have hpf : isPfx (cov a m) m = true := cov_pfx h0 h1 (by omega)
      obtain ⟨k, hk1, hk2, hk3⟩ := rank_nat hpf
      have hwr1 : IntKind.i64.wrap (a - a % wid m) = cov a m := by rw [IntKind.wrap_i64, hcv]; omega
      have hwr2 : IntKind.i64.wrap ((m : Int) - 1) = (m : Int) - 1 := by rw [IntKind.wrap_i64]; omega
      have hval := HT.out.val (cov a m) m hpf
      rw [hk3] at hval
      have hbr := HB.out.kept (HBr.out.block _ HB.out.lt.1) (HBr.out.block _ HB.out.lt.2)
      have y5 := hbr.r
      have yc := hbr.cell hk1
      have hrk := hide (fun W => rank_any (cov a m) m hpf W)
      have hwd := hide (fun W => width_any (m : Int) d0 d8 W)
      rw [hk2] at hrk
      have hi0 : (0 : Int) ≤ (k : Int) := by omega
      have hi1 : (k : Int) < 2304 := by omega
      have hz := orZ_none (a := cov a m) (l := m) hk
      have hstep : blN xs a (m + 1) = if (getE xs (cov a m) m).isSome then some m else blN xs a m := rfl
      rw [hval] at yc
      have zb : bk < wr.heap.size := by have := HBr.out.size; omega
      have HBL := hide hbl
      have HST := hide hstep
      have hsum : (getE xs (cov a m) m).isSome = true ↔ ¬ (orZ (getE xs (cov a m) m) = 0) := by
        rw [hz]
        cases getE xs (cov a m) m <;> simp
      generalize orZ (getE xs (cov a m) m) = vv at *
      have HS := hide hsum
      clear hval hbl hstep hsum hz hpf hcb hk3 hcv hbr hmn hml
      generalize cov a m = cvv at *
      by_cases hv : vv = 0
      · have d1 : (vv != 0) = false := by simp [hv]
        have next := hide (show ∀ W, Below wr.heap.size wr W → ∃ j : Nat, j ≤ 9 ∧ Value.int .i64 ((m : Int) - 1) = .int .i64 ((j : Int) - 1) ∧ blN xs a 9 = blN xs a j ∧ Hid (Below w.heap.size w W) from fun W hW => ⟨m, by omega, rfl, by
          rw [HBL.out, HST.out, if_neg (by rw [HS.out]; exact fun h => h hv)], HBr.out.trans (hW.mono HBr.out.size)⟩)
        clear hv
        go_wp2_with fail
        refine (hwd.out _).mono ?_
        rintro _ w2 ⟨rfl, rfl⟩
        go_wp2
        go_quiet ((go_at_call 43; exact Calls.quiet_of_same (hrk.out _)))
        go_wp2
        exact ⟨next.out _ (by repeat (first | exact Below.refl _ _ | refine below_drewN ?_ _ | refine Below.drew ?_ | refine Below.trans ?_ (Below.mono (by assumption) (by first | omega | (simp; omega) | simp)) | refine Below.alloc ?_ (by first | omega | (simp; omega) | simp) _ | refine Below.setCell ?_ (by first | omega | (simp; omega) | simp) _)), by simp [intOf]⟩
      · have d1 : (vv != 0) = true := by simpa using hv
        have fin := hide (show blI (blN xs a 9) = (m : Int) by rw [HBL.out, HST.out, if_pos (HS.out.2 hv)]; rfl)
        clear hv
        go_wp2_with fail
        refine (hwd.out _).mono ?_
        rintro _ w2 ⟨rfl, rfl⟩
        go_wp2
        go_quiet ((go_at_call 43; exact Calls.quiet_of_same (hrk.out _)))
        go_wp2
        go_ret
        exact ⟨by rw [fin.out]; rfl, HBr.out.trans (Below.mono (by repeat (first | exact Below.refl _ _ | refine below_drewN ?_ _ | refine Below.drew ?_ | refine Below.trans ?_ (Below.mono (by assumption) (by first | omega | (simp; omega) | simp)) | refine Below.alloc ?_ (by first | omega | (simp; omega) | simp) _ | refine Below.setCell ?_ (by first | omega | (simp; omega) | simp) _)) HBr.out.size)⟩


-- how many routes there are
def cntR (rs : Nat → Int) (i : Nat) : Nat := ((List.range i).filter fun k => decide (rs k ≠ 0)).length
theorem cntR_succ (rs : Nat → Int) (i : Nat) : cntR rs (i + 1) = if rs i = 0 then cntR rs i else cntR rs i + 1 := by
  unfold cntR
  rw [List.range_succ, List.filter_append]
  by_cases h : rs i = 0
  · simp [h]
  · simp [h]
theorem cntR_le (rs : Nat → Int) (i : Nat) : cntR rs i ≤ i := by
  have := List.length_filter_le (fun k => decide (rs k ≠ 0)) (List.range i)
  rw [List.length_range] at this
  exact this
theorem lt_ext : ∀ {xs ys : List Nat}, xs.Pairwise (· < ·) → ys.Pairwise (· < ·) → (∀ k, k ∈ xs ↔ k ∈ ys) → xs = ys
  | [], [], _, _, _ => rfl
  | [], y :: ys, _, _, h => by have := (h y).2 (by simp); cases this
  | x :: xs, [], _, _, h => by have := (h x).1 (by simp); cases this
  | x :: xs, y :: ys, hx, hy, h => by
    obtain ⟨hx1, hx2⟩ := List.pairwise_cons.1 hx
    obtain ⟨hy1, hy2⟩ := List.pairwise_cons.1 hy
    have e : x = y := by
      have h1 := (h x).1 (by simp)
      have h2 := (h y).2 (by simp)
      rcases List.mem_cons.1 h1 with h1 | h1
      · exact h1
      · rcases List.mem_cons.1 h2 with h2 | h2
        · exact h2.symm
        · have := hx1 y h2; have := hy1 x h1; omega
    subst e
    congr 1
    refine lt_ext hx2 hy2 fun k => ?_
    have := h k
    constructor
    · intro hk
      have hlt := hx1 k hk
      rcases List.mem_cons.1 (this.1 (by simp [hk])) with h3 | h3
      · omega
      · exact h3
    · intro hk
      have hlt := hy1 k hk
      rcases List.mem_cons.1 (this.2 (by simp [hk])) with h3 | h3
      · omega
      · exact h3
-- the ranks of the routes, in their order
def ranks (xs : List Ent) : List Nat := xs.map fun x => (9 * x.a + x.l).toNat
theorem ranks_lt {xs : List Ent} (hs : Sorted xs) (hk : ∀ x ∈ xs, okE x) : (ranks xs).Pairwise (· < ·) := by
  induction xs with
  | nil => exact List.Pairwise.nil
  | cons x xs ih =>
    obtain ⟨h1, h2⟩ := sorted_tail hs
    refine List.pairwise_cons.2 ⟨fun k hk' => ?_, ih h1 fun y hy => hk y (by simp [hy])⟩
    obtain ⟨y, hy, rfl⟩ := List.mem_map.1 hk'
    have q1 := (isPfx_iff _ _).1 (hk x (by simp)).1
    have q2 := (isPfx_iff _ _).1 (hk y (by simp [hy])).1
    have q3 := h2 y hy
    unfold klt at q3
    show (9 * x.a + x.l).toNat < (9 * y.a + y.l).toNat
    omega
theorem nz_ranks {rs : Nat → Int} {xs : List Ent} (ht : Tie rs xs) (hs : Sorted xs) (hk : ∀ x ∈ xs, okE x) : (List.range 2304).filter (fun k => decide (rs k ≠ 0)) = ranks xs := by
  refine lt_ext (List.Pairwise.filter _ List.pairwise_lt_range) (ranks_lt hs hk) fun k => ?_
  rw [List.mem_filter, List.mem_range]
  constructor
  · rintro ⟨h1, h2⟩
    have h3 : rs k ≠ 0 := by simpa using h2
    obtain ⟨a, l, hp, he⟩ : ∃ a l, isPfx a l = true ∧ (9 * a + l).toNat = k := by
      by_cases h : ∃ a l, isPfx a l = true ∧ (9 * a + l).toNat = k
      · exact h
      · exact absurd (ht.z k fun a l hp he => h ⟨a, l, hp, he⟩) h3
    rw [← he, ht.val a l hp] at h3
    cases hg : getE xs a l with
    | none => rw [hg] at h3; exact absurd rfl h3
    | some v =>
      obtain ⟨y, hy, e1, e2, _⟩ := getE_memS hg
      exact List.mem_map.2 ⟨y, hy, by rw [e1, e2]; exact he⟩
  · intro h
    obtain ⟨x, hx, rfl⟩ := List.mem_map.1 h
    have q1 := (isPfx_iff _ _).1 (hk x hx).1
    refine ⟨by omega, ?_⟩
    rw [ht.val x.a x.l (hk x hx).1]
    have hg : getE xs x.a x.l = some x.n := getE_of_memS hs hx
    rw [hg]
    have := (hk x hx).2.1
    exact decide_eq_true (by show x.n ≠ 0; omega)
theorem cnt_all {rs : Nat → Int} {xs : List Ent} (ht : Tie rs xs) (hs : Sorted xs) (hk : ∀ x ∈ xs, okE x) : cntR rs 2304 = xs.length := by
  unfold cntR
  rw [nz_ranks ht hs hk]
  simp [ranks]

set_option maxHeartbeats 1000000 in
theorem bookCount_any (w : World) (bk g t : Nat) (cf : Cfg) (rs : Nat → Int) (xs : List Ent) (hB : BookF w bk g t cf rs) (ht : Tie rs xs) (hs : Sorted xs) (hk : ∀ x ∈ xs, okE x) :
    Calls Tryz.prog 30 #[ptrV bk] w fun r w' => r = .returned (.int .i64 (xs.length : Nat)) ∧ Below w.heap.size w w' := by
  have bl := hB.lt.1
  have HB := hide hB
  have HC := hide (cnt_all ht hs hk)
  clear hB ht hs hk
  go_enter Tryz.func30, Tryz.ntmps30
  go_wp2
  go_loopw [3, 4] (fun s3 s4 wr => ∃ i : Nat, i ≤ 2304 ∧ s3 = .int .i64 (cntR rs i : Nat) ∧ s4 = .int .i64 (i : Int) ∧ Hid (Below w.heap.size w wr)) (fun _ s4 _ => 2304 - (intOf s4).toNat)
  case atStart => exact ⟨0, by omega, rfl, rfl, Below.refl _ _⟩
  case round =>
    obtain ⟨i, hi, rfl, rfl, HBr⟩ := hrel
    have hbr := HB.out.kept (HBr.out.block _ HB.out.lt.1) (HBr.out.block _ HB.out.lt.2)
    have y5 := hbr.r
    by_cases hlt : i < 2304
    · have yc := hbr.cell hlt
      have j0 : (0 : Int) ≤ (i : Int) := by omega
      have j1 : (i : Int) < 2304 := by omega
      have hle := cntR_le rs i
      have hw1 : IntKind.i64.wrap ((i : Int) + 1) = (i : Int) + 1 := by rw [IntKind.wrap_i64]; omega
      have hw2 : IntKind.i64.wrap ((cntR rs i : Int) + 1) = (cntR rs i : Int) + 1 := by rw [IntKind.wrap_i64]; omega
      have hsc := cntR_succ rs i
      by_cases hv : rs i = 0
      · have d1 : (rs i != 0) = false := by simp [hv]
        rw [if_pos hv] at hsc
        have next := hide (show ∃ i' : Nat, i' ≤ 2304 ∧ Value.int .i64 (cntR rs i : Nat) = .int .i64 (cntR rs i' : Nat) ∧ Value.int .i64 ((i : Int) + 1) = .int .i64 (i' : Int) ∧ Hid (Below w.heap.size w wr) from ⟨i + 1, by omega, by rw [hsc], by simp, HBr⟩)
        clear hsc hv hbr
        go_wp2
        exact ⟨next.out, by simp [intOf]; omega⟩
      · have d1 : (rs i != 0) = true := by simpa using hv
        rw [if_neg hv] at hsc
        have next := hide (show ∃ i' : Nat, i' ≤ 2304 ∧ Value.int .i64 ((cntR rs i : Int) + 1) = .int .i64 (cntR rs i' : Nat) ∧ Value.int .i64 ((i : Int) + 1) = .int .i64 (i' : Int) ∧ Hid (Below w.heap.size w wr) from ⟨i + 1, by omega, by rw [hsc]; simp, by simp, HBr⟩)
        clear hsc hv hbr
        go_wp2
        exact ⟨next.out, by simp [intOf]; omega⟩
    · obtain rfl : i = 2304 := by omega
      have hcc := HC.out
      have fin := hide (show Value.int .i64 (cntR rs 2304 : Nat) = .int .i64 (xs.length : Nat) by rw [hcc])
      clear hcc hbr
      go_wp2
      go_ret
      exact ⟨congrArg Ending.returned fin.out, HBr.out⟩

end Go.Proofs.YtglbamalagacgaaGreat

namespace Go.Proofs.YtglbamalagacgaaGreat
open Go.RowKit Go.Shelf

attribute [local go_sem] Oper.semAt_some

-- STATE
abbrev staV (a b c d e f : Int) : Value := .agg #[.int .i64 a, .int .i64 b, .int .i64 c, .int .i64 d, .int .i64 e, .int .i64 f]
abbrev staC (a b c d e f : Int) : Obj := .cells #[.int .i64 a, .int .i64 b, .int .i64 c, .int .i64 d, .int .i64 e, .int .i64 f] 39
def knM : Option Mv → Int
  | none => 0
  | some m => m.k
def phM : Option Mv → Int
  | none => 0
  | some m => m.ph
def cpM : Option Mv → Int
  | none => 0
  | some m => m.cp
structure StaI (w w' : World) (bc : Nat) (a e f : Int) : Prop where
  below : Below w.heap.size w w'
  box : w'.heap[bc]? = some (staC a 0 0 0 e f)
  res : w'.heap[w.heap.size]? = some (staC 0 0 0 0 0 0)
  ne : w.heap.size < bc
theorem sta_alloc {w w2 : World} {a e f : Int} (hb : Below (w.alloc (staC 0 0 0 0 0 0)).drew.heap.size (w.alloc (staC 0 0 0 0 0 0)).drew w2) : StaI w (w2.alloc (staC a 0 0 0 e f)) w2.heap.size a e f := by
  have hs := hb.size
  simp at hs
  have hB : Below w.heap.size w w2 := ((Below.refl _ w).alloc (Nat.le_refl _) _).drew.trans (hb.mono (by simp))
  refine ⟨hB.alloc (by omega) _, World.alloc_heap_new w2 _, ?_, by omega⟩
  exact ((Below.heap_alloc w2 _ _ (by omega)).trans (hb.block _ (by simp))).trans (World.alloc_heap_new w _)
theorem sta_store {w w2 : World} {a e f : Int} (hb : Below ((w.alloc (staC 0 0 0 0 0 0)).alloc (staC 0 0 0 0 0 0)).drew.heap.size ((w.alloc (staC 0 0 0 0 0 0)).alloc (staC 0 0 0 0 0 0)).drew w2) :
    StaI w ((((((w2.setCell ⟨w.heap.size + 1, 0, none⟩ (.int .i64 a)).setCell ⟨w.heap.size + 1, 1, none⟩ (.int .i64 0)).setCell ⟨w.heap.size + 1, 2, none⟩ (.int .i64 0)).setCell ⟨w.heap.size + 1, 3, none⟩ (.int .i64 0)).setCell ⟨w.heap.size + 1, 4, none⟩ (.int .i64 e)).setCell ⟨w.heap.size + 1, 5, none⟩ (.int .i64 f)) (w.heap.size + 1) a e f := by
  have hs := hb.size
  simp at hs
  have hB : Below w.heap.size w w2 := (((Below.refl _ w).alloc (Nat.le_refl _) _).alloc (by simp) _).drew.trans (hb.mono (by simp; omega))
  have h1 : w2.heap[w.heap.size + 1]? = some (staC 0 0 0 0 0 0) := by
    refine (hb.block _ (by simp)).trans ?_
    have := World.alloc_heap_new (w.alloc (staC 0 0 0 0 0 0)) (staC 0 0 0 0 0 0)
    rwa [World.size_alloc] at this
  obtain ⟨a1, a2, a3⟩ := setT h1 0 (.int .i64 a)
  obtain ⟨b1, b2, b3⟩ := setT a1 1 (.int .i64 0)
  obtain ⟨c1, c2, c3⟩ := setT b1 2 (.int .i64 0)
  obtain ⟨d1, d2, d3⟩ := setT c1 3 (.int .i64 0)
  obtain ⟨e1, e2, e3⟩ := setT d1 4 (.int .i64 e)
  obtain ⟨f1, f2, f3⟩ := setT e1 5 (.int .i64 f)
  refine ⟨(((((hB.setCell (by simp) _).setCell (by simp) _).setCell (by simp) _).setCell (by simp) _).setCell (by simp) _).setCell (by simp) _, f1, ?_, by omega⟩
  refine (((((((f2 _ (by omega)).trans (e2 _ (by omega))).trans (d2 _ (by omega))).trans (c2 _ (by omega))).trans (b2 _ (by omega))).trans (a2 _ (by omega))).trans (hb.block _ (by simp; omega))).trans ?_
  exact (Below.heap_alloc _ _ _ (by simp)).trans (World.alloc_heap_new w _)
set_option maxRecDepth 4000 in
set_option maxHeartbeats 2000000 in
theorem tstate_any (w : World) (t : Nat) (e : Value) (s : TS) (pm : Value) (F H : List Nat) (h : Tab3 w t e s pm F H) :
    Calls Tryz.prog 16 #[ptrV t] w fun r w' => r = .returned (staV s.k (knM s.mv) (phM s.mv) (cpM s.mv) s.ms s.bs) ∧ Below w.heap.size w w' := by
  have tl := h.lt
  have hE := h.eng
  have heq1 : ∃ T p, e = .iface T (ptrV p) := by obtain ⟨_, _, T, p, q, _⟩ := h.eng; exact ⟨T, p, q⟩
  have t0 : w.cell? ⟨t, 0, none⟩ = some e := by simp [World.cell?, h.blk]
  have t5 : w.cell? ⟨t, 5, none⟩ = some (.int .i64 s.ms) := by simp [World.cell?, h.blk]
  have t6 : w.cell? ⟨t, 6, none⟩ = some (.int .i64 s.bs) := by simp [World.cell?, h.blk]
  have tn : t ≠ w.heap.size := by omega
  have tn' : w.heap.size ≠ t := by omega
  have tl1 : t < w.heap.size + 1 := by omega
  have tl2 : t < w.heap.size + 1 + 1 := by omega
  have tn2 : t ≠ w.heap.size + 1 := by omega
  have tn2' : w.heap.size + 1 ≠ t := by omega
  have Hkd := hide (show ∀ W, Below w.heap.size w W → Calls Tryz.prog 45 #[e] W fun r w' => r = .returned (.int .i64 s.k) ∧ Below W.heap.size W w' from fun W hW => by
    have := kind_any e s.xs F W (hE.later hW)
    rwa [h.kind] at this)
  have HT := hide h
  generalize s.k = kk at *
  generalize s.ms = ms at *
  generalize s.bs = bs at *
  obtain ⟨T, p, rfl⟩ := heq1
  clear hE h
  go_enter Tryz.func16, Tryz.ntmps16
  go_wp2
  go_cut [3] from 4 to 48 (fun sl w' => ∃ bc, sl = ptrV bc ∧ StaI w w' bc kk ms bs)
  case first =>
    go_region_held3 (fun w' => w'.cell? ⟨t, 0, none⟩ = some (.iface T (ptrV p)) ∧ w'.cell? ⟨t, 5, none⟩ = some (.int .i64 ms) ∧ w'.cell? ⟨t, 6, none⟩ = some (.int .i64 bs)) (go_keep)
      ((go_at_call 45; refine (Hkd.out _ (by repeat (first | exact Below.refl _ _ | refine below_drewN ?_ _ | refine Below.drew ?_ | refine Below.trans ?_ (Below.mono (by assumption) (by first | omega | (simp; omega) | simp)) | refine Below.alloc ?_ (by first | omega | (simp; omega) | simp) _ | refine Below.setCell ?_ (by first | omega | (simp; omega) | simp) _))).mono ?_; rintro _ w2 ⟨rfl, hb2⟩; have hc2 := (bcell hb2).1; have hf2 := (bcell hb2).2))
    all_goals
      first
        | (have fin := hide (sta_alloc (w := w) (a := kk) (e := ms) (f := bs) hb2))
        | (have fin := hide (sta_store (w := w) (a := kk) (e := ms) (f := bs) hb2))
      clear hb2 hc2 hf2
      go_wp2_with fail
      go_meet
      exact ⟨_, rfl, fin.out⟩
  case rest =>
    obtain ⟨bc, rfl, hC⟩ := hcut
    have hB := hC.below
    have hsz := hB.size
    have q0 : ∀ o, wc.cell? ⟨t, o, none⟩ = w.cell? ⟨t, o, none⟩ := fun o => hB.cell (p := ⟨t, o, none⟩) tl
    have u0 : wc.cell? ⟨bc, 0, none⟩ = some (.int .i64 kk) := by simp [World.cell?, hC.box]
    have u1 : wc.cell? ⟨bc, 1, none⟩ = some (.int .i64 0) := by simp [World.cell?, hC.box]
    have u2 : wc.cell? ⟨bc, 2, none⟩ = some (.int .i64 0) := by simp [World.cell?, hC.box]
    have u3 : wc.cell? ⟨bc, 3, none⟩ = some (.int .i64 0) := by simp [World.cell?, hC.box]
    have u4 : wc.cell? ⟨bc, 4, none⟩ = some (.int .i64 ms) := by simp [World.cell?, hC.box]
    have u5 : wc.cell? ⟨bc, 5, none⟩ = some (.int .i64 bs) := by simp [World.cell?, hC.box]
    have uf : ∀ o, wc.frozen? ⟨bc, o, none⟩ = false := fun o => by simp [World.frozen?, hC.box]
    have v0 : wc.cell? ⟨w.heap.size, 0, none⟩ = some (.int .i64 0) := by simp [World.cell?, hC.res]
    have v1 : wc.cell? ⟨w.heap.size, 1, none⟩ = some (.int .i64 0) := by simp [World.cell?, hC.res]
    have v2 : wc.cell? ⟨w.heap.size, 2, none⟩ = some (.int .i64 0) := by simp [World.cell?, hC.res]
    have v3 : wc.cell? ⟨w.heap.size, 3, none⟩ = some (.int .i64 0) := by simp [World.cell?, hC.res]
    have v4 : wc.cell? ⟨w.heap.size, 4, none⟩ = some (.int .i64 0) := by simp [World.cell?, hC.res]
    have v5 : wc.cell? ⟨w.heap.size, 5, none⟩ = some (.int .i64 0) := by simp [World.cell?, hC.res]
    have vf : ∀ o, wc.frozen? ⟨w.heap.size, o, none⟩ = false := fun o => by simp [World.frozen?, hC.res]
    have ne1 : ¬ (bc = w.heap.size) := by have := hC.ne; omega
    have ne2 : ¬ (w.heap.size = bc) := by have := hC.ne; omega
    have ne3 : ¬ (bc = t) := by have := hC.ne; omega
    have ne4 : ¬ (t = bc) := by have := hC.ne; omega
    have HB := hide hB
    rcases (show s.mv = none ∨ ∃ m, s.mv = some m by cases s.mv with | none => exact .inl rfl | some m => exact .inr ⟨m, rfl⟩) with hmv | ⟨m, hmv⟩
    · have hpm := HT.out.mv
      rw [hmv] at hpm
      have t4 : wc.cell? ⟨t, 4, none⟩ = some (.pointer none) := (q0 4).trans (by simp [World.cell?, HT.out.blk, hpm.1])
      have Hmv := hide hmv
      clear hC hB HT hpm Hkd q0 hmv
      go_wp2
      refine bodyPost_ret (v := staV kk 0 0 0 ms bs) (by simp [results, Tryz.results16, go_sem, *]) rfl ⟨by rw [Hmv.out]; rfl, ?_⟩
      exact (((((HB.out.setCell (by simp) _).setCell (by simp) _).setCell (by simp) _).setCell (by simp) _).setCell (by simp) _).setCell (by simp) _
    · have hpm := HT.out.mv
      rw [hmv] at hpm
      obtain ⟨mb, e2, lb, F2, G, rfl, hM, hH⟩ := hpm
      have ml := hM.lt
      have t4 : wc.cell? ⟨t, 4, none⟩ = some (ptrV mb) := (q0 4).trans (by simp [World.cell?, HT.out.blk])
      have p0 : wc.cell? ⟨mb, 0, none⟩ = some e2 := (hB.cell (p := ⟨mb, 0, none⟩) ml).trans (by simp [World.cell?, hM.blk])
      have p1 : wc.cell? ⟨mb, 1, none⟩ = some (.int .i64 m.ph) := (hB.cell (p := ⟨mb, 1, none⟩) ml).trans (by simp [World.cell?, hM.blk])
      have p2 : wc.cell? ⟨mb, 2, none⟩ = some (.int .i64 m.cp) := (hB.cell (p := ⟨mb, 2, none⟩) ml).trans (by simp [World.cell?, hM.blk])
      have Hk2 := hide (kind_any e2 m.ys F2 wc (hM.eng.later hB))
      have hkd := hM.kind
      rw [hkd] at Hk2
      have heq2 : ∃ T p, e2 = .iface T (ptrV p) := by obtain ⟨_, _, T, p, q, _⟩ := hM.eng; exact ⟨T, p, q⟩
      obtain ⟨T2, p2', rfl⟩ := heq2
      have ne5 : ¬ (mb = bc) := by have := hC.ne; have := ml; omega
      have ne6 : ¬ (bc = mb) := by have := hC.ne; have := ml; omega
      have zb : bc < wc.heap.size := (Array.getElem?_eq_some_iff.1 hC.box).1
      have zr : w.heap.size < wc.heap.size := (Array.getElem?_eq_some_iff.1 hC.res).1
      have zbc : w.heap.size ≤ bc := Nat.le_of_lt hC.ne
      have zt : t < wc.heap.size := by omega
      have zm : mb < wc.heap.size := by have := ml; omega
      have Hmv := hide (show knM s.mv = m.k ∧ phM s.mv = m.ph ∧ cpM s.mv = m.cp by rw [hmv]; exact ⟨rfl, rfl, rfl⟩)
      generalize m.k = mk at *
      generalize m.ph = mp at *
      generalize m.cp = mc at *
      clear hC hB HT hM Hkd q0 hkd hmv
      go_wp2_with fail
      refine Hk2.out.mono ?_
      rintro _ w3 ⟨rfl, hb3⟩
      have hc3 : ∀ b o, b < wc.heap.size → w3.cell? ⟨b, o, none⟩ = wc.cell? ⟨b, o, none⟩ := fun b o hb => hb3.cell (p := ⟨b, o, none⟩) hb
      have hf3 : ∀ b o, b < wc.heap.size → w3.frozen? ⟨b, o, none⟩ = wc.frozen? ⟨b, o, none⟩ := fun b o hb => hb3.frozen (p := ⟨b, o, none⟩) hb
      have x0 := (hc3 t 4 zt).trans t4
      have x1 := (hc3 mb 1 zm).trans p1
      have x2 := (hc3 mb 2 zm).trans p2
      have y0 := (hc3 bc 0 zb).trans u0
      have y1 := (hc3 bc 1 zb).trans u1
      have y2 := (hc3 bc 2 zb).trans u2
      have y3 := (hc3 bc 3 zb).trans u3
      have y4 := (hc3 bc 4 zb).trans u4
      have y5 := (hc3 bc 5 zb).trans u5
      have yf : ∀ o, w3.frozen? ⟨bc, o, none⟩ = false := fun o => (hf3 bc o zb).trans (uf o)
      have r0 := (hc3 w.heap.size 0 zr).trans v0
      have r1 := (hc3 w.heap.size 1 zr).trans v1
      have r2 := (hc3 w.heap.size 2 zr).trans v2
      have r3 := (hc3 w.heap.size 3 zr).trans v3
      have r4 := (hc3 w.heap.size 4 zr).trans v4
      have r5 := (hc3 w.heap.size 5 zr).trans v5
      have rf : ∀ o, w3.frozen? ⟨w.heap.size, o, none⟩ = false := fun o => (hf3 w.heap.size o zr).trans (vf o)
      have HB3 := hide (HB.out.trans (hb3.mono HB.out.size))
      clear hb3 Hk2 hc3 hf3 u0 u1 u2 u3 u4 u5 uf v0 v1 v2 v3 v4 v5 vf t4 p0 p1 p2
      go_wp2
      refine bodyPost_ret (v := staV kk mk mp mc ms bs) (by simp [results, Tryz.results16, go_sem, *]) rfl ⟨by rw [Hmv.out.1, Hmv.out.2.1, Hmv.out.2.2], ?_⟩
      exact ((((((((HB3.out.setCell zbc _).setCell zbc _).setCell zbc _).setCell (by simp) _).setCell (by simp) _).setCell (by simp) _).setCell (by simp) _).setCell (by simp) _).setCell (by simp) _

end Go.Proofs.YtglbamalagacgaaGreat

namespace Go.Proofs.YtglbamalagacgaaGreat
open Go.RowKit Go.Shelf

attribute [local go_sem] Oper.semAt_some

-- a block that is none of the law's, nor of its table
structure Kpt (w : World) (bk g : Nat) (A : List Nat) (o : Nat) (ob : Obj) : Prop where
  here : w.heap[o]? = some ob
  no : o ∉ bk :: g :: A
theorem Kpt.lt {w : World} {bk g : Nat} {A : List Nat} {o : Nat} {ob : Obj} (h : Kpt w bk g A o ob) : o < w.heap.size := (Array.getElem?_eq_some_iff.1 h.here).1
theorem Kpt.only {w w' : World} {bk g g' : Nat} {A A' : List Nat} {o : Nat} {ob : Obj} (h : Kpt w bk g A o ob) (hO : Only (bk :: g :: A) w w') (hN : NewF w (bk :: g :: A) (bk :: g' :: A')) : Kpt w' bk g' A' o ob :=
  ⟨(hO.block o h.lt h.no).trans h.here, fun hm => (hN _ hm).elim h.no fun h1 => by have := h.lt; omega⟩
theorem Kpt.later {w w' : World} {bk g : Nat} {A : List Nat} {o : Nat} {ob : Obj} (h : Kpt w bk g A o ob) (hB : Below w.heap.size w w') : Kpt w' bk g A o ob := ⟨(hB.block o h.lt).trans h.here, h.no⟩
theorem Mid.nextK {c : TabC} {w1 w w' : World} {bk g t : Nat} {cf : Cfg} {rs : Nat → Int} {s : c.S} {F : List Nat} {o : Nat} {ob : Obj} {r : Ending} (h : Mid c w1 w bk g t cf rs s F) (hK : Kpt w bk g F o ob) (hp : LawPost c bk g t cf s F w r w') : r = .returned (.bool true) ∧ ∃ g' rs' s' F', Mid c w1 w' bk g' t cf rs' s' F' ∧ Kpt w' bk g' F' o ob ∧ c.fits s s' := by
  obtain ⟨h1, g', rs', s', F', h2, h3, h4, h5⟩ := hp
  have hs := h.below.size
  have hF : ∀ k ∈ bk :: g :: F, w1.heap.size ≤ k := fun k hk => by
    simp at hk
    rcases hk with rfl | rfl | hk
    · exact h.b1
    · exact h.b2
    · exact h.b3 k hk
  have hF' : ∀ k ∈ bk :: g' :: F', w1.heap.size ≤ k := fun k hk => (h5 k hk).elim (hF k) (fun h => by omega)
  exact ⟨h1, g', rs', s', F', ⟨h2, below_only h.below h4 hF (Nat.le_refl _), h.b1, hF' g' (by simp), fun k hk => hF' k (by simp [hk])⟩, hK.only h4 h5, h3⟩
theorem Mid.first {c : TabC} {w1 w : World} {bk g t : Nat} {cf : Cfg} {rs : Nat → Int} {s : c.S} {F : List Nat} {o : Nat} {ob : Obj} (h : Mid c w1 w bk g t cf rs s F) (ho : w1.heap[o]? = some ob) : Kpt w bk g F o ob := by
  have hl := (Array.getElem?_eq_some_iff.1 ho).1
  refine ⟨(h.below.block o hl).trans ho, fun hm => ?_⟩
  simp at hm
  rcases hm with rfl | rfl | hk
  · have := h.b1; omega
  · have := h.b2; omega
  · have := h.b3 _ hk; omega

-- THE LAW'S STATE, ITS TABLE'S STATE PLAIN; o: a block that it does not touch
def MidS (w1 w : World) (bk t : Nat) (cf : Cfg) (s : TS) (o : Nat) (ob : Obj) : Prop := s.Ok ∧ s.lim = cf.l ∧ s.ch = cf.c ∧ ∃ g rs A, Mid tab3 w1 w bk g t cf rs s A ∧ Kpt w bk g A o ob
theorem Mid.ofI {Inv : TS → Nat → Prop} {w1 w : World} {bk g t : Nat} {cf : Cfg} {rs : Nat → Int} {s : TS} {j : Nat} {A : List Nat} {o : Nat} {ob : Obj} (h : Mid (tabI Inv) w1 w bk g t cf rs (s, j) A) (hK : Kpt w bk g A o ob) : MidS w1 w bk t cf s o ob ∧ Inv s j := by
  obtain ⟨⟨a, b, c, d, e, f⟩, h2, h3, h4, h5⟩ := h
  have f' : (s.lim, s.ch) = (cf.l, cf.c) := f
  exact ⟨⟨b.1.1, congrArg Prod.fst f', congrArg Prod.snd f', g, rs, A, ⟨⟨a, b.1, c, d, e, f⟩, h2, h3, h4, h5⟩, hK⟩, b.2⟩
theorem MidS.toI {Inv : TS → Nat → Prop} {w1 w : World} {bk t : Nat} {cf : Cfg} {s : TS} {j : Nat} {o : Nat} {ob : Obj} (h : MidS w1 w bk t cf s o ob) (hI : Inv s j) : ∃ g rs A, Mid (tabI Inv) w1 w bk g t cf rs (s, j) A ∧ Kpt w bk g A o ob := by
  obtain ⟨_, _, _, g, rs, A, ⟨⟨a, b, c, d, e, f⟩, h2, h3, h4, h5⟩, hK⟩ := h
  exact ⟨g, rs, A, ⟨⟨a, ⟨b, hI⟩, c, d, e, f⟩, h2, h3, h4, h5⟩, hK⟩
section
variable {w1 w w' : World} {bk t : Nat} {cf : Cfg} {s s' : TS} {o : Nat} {ob : Obj}
theorem MidS.later (h : MidS w1 w bk t cf s o ob) (hB : Below w.heap.size w w') : MidS w1 w' bk t cf s o ob := by
  obtain ⟨a, b, c, g, rs, A, h, hK⟩ := h
  exact ⟨a, b, c, g, rs, A, h.later hB, hK.later hB⟩
theorem MidS.below (h : MidS w1 w bk t cf s o ob) : Below w1.heap.size w1 w := by
  obtain ⟨a, b, c, g, rs, A, h, _⟩ := h
  exact h.below
theorem MidS.x (h : MidS w1 w bk t cf s o ob) : w.cell? ⟨bk, 4, none⟩ = some (ptrV t) ∧ bk < w.heap.size := by
  obtain ⟨a, b, c, g, rs, A, h, _⟩ := h
  exact ⟨h.law.book.x, h.law.book.lt.1⟩
theorem MidS.here (h : MidS w1 w bk t cf s o ob) : w.heap[o]? = some ob := by
  obtain ⟨a, b, c, g, rs, A, h, hK⟩ := h
  exact hK.here
-- a new block to be kept
theorem MidS.news (h : MidS w1 w bk t cf s o ob) (ob' : Obj) : MidS w1 (w.alloc ob') bk t cf s w.heap.size ob' := by
  obtain ⟨a, b, c, g, rs, A, h, _⟩ := h
  have hl := h.law.book.lt
  have ht := tab3.lt h.law.tab
  refine ⟨a, b, c, g, rs, A, h.later ((Below.refl _ w).alloc (Nat.le_refl _) _), World.alloc_heap_new w ob', fun hm => ?_⟩
  simp at hm
  rcases hm with hm | hm | hm
  · omega
  · omega
  · have := ht _ hm; omega
-- behind a call that leaves the routes
theorem Mid.turn {g : Nat} {rs : Nat → Int} {F H : List Nat} {c : Int} {r : Ending} (h : Mid tab3 w1 w bk g t cf rs s (t :: (F ++ H))) (hK : Kpt w bk g (t :: (F ++ H)) o ob) (hp : StPost w t F H c s' r w') (ho : s'.Ok) (hx : s'.xs = s.xs) (hl : s'.lim = s.lim) (hc : s'.ch = s.ch) : r = .returned (.int .i64 c) ∧ ∃ A, Mid tab3 w1 w' bk g t cf rs s' A ∧ Kpt w' bk g A o ob := by
  obtain ⟨e', pm', F', H', p1, p2, p3, p4⟩ := hp
  have hT : tab3.T w' t s' (t :: (F' ++ H')) := ⟨ho, e', pm', F', H', p2, rfl⟩
  have hx2 : tab3.xs s' = tab3.xs s := hx
  have hl2 : tab3.log s' = tab3.log s := by show (s'.lim, s'.ch) = (s.lim, s.ch); rw [hl, hc]
  obtain ⟨q1, q2, q3⟩ := h.law.after (Below.refl _ w) hT p3 p4 hl2 hx2
  have hs := h.below.size
  refine ⟨p1, t :: (F' ++ H'), ⟨q1, below_only h.below q2 h.b3 (Nat.le_refl _), h.b1, h.b2, fun k hk => (q3 k hk).elim (h.b3 k) fun h1 => by omega⟩, hK.only (q2.wide bk g) fun k hk => ?_⟩
  rcases List.mem_cons.1 hk with rfl | hk
  · exact .inl (by simp)
  rcases List.mem_cons.1 hk with rfl | hk
  · exact .inl (by simp)
  · exact (q3 k hk).imp (fun h1 => List.mem_cons_of_mem _ (List.mem_cons_of_mem _ h1)) id
theorem MidS.turn {c : Int} {f : Nat} {args : Array Value} (h : MidS w1 w bk t cf s o ob) (hp : ∀ e pm F H, Tab3 w t e s pm F H → Calls Tryz.prog f (#[ptrV t] ++ args) w (StPost w t F H c s')) (ho : s'.Ok) (hx : s'.xs = s.xs) (hl : s'.lim = s.lim) (hc : s'.ch = s.ch) :
    Calls Tryz.prog f (#[ptrV t] ++ args) w fun r w' => r = .returned (.int .i64 c) ∧ MidS w1 w' bk t cf s' o ob := by
  obtain ⟨a, b, c', g, rs, A, h, hK⟩ := h
  obtain ⟨_, e, pm, F, H, hT, rfl⟩ := h.law.tab
  refine (hp e pm F H hT).mono fun r w' hq => ?_
  obtain ⟨q1, A, q2, q3⟩ := h.turn hK hq ho hx hl hc
  exact ⟨q1, ho, hl.trans b, hc.trans c', g, rs, A, q2, q3⟩
theorem MidS.step (h : MidS w1 w bk t cf s o ob) : Calls Tryz.prog 17 #[ptrV t] w fun r w' => r = .returned (.int .i64 s.step.1) ∧ MidS w1 w' bk t cf s.step.2 o ob := by
  have ho := step_ok h.1
  exact h.turn (args := #[]) (fun e pm F H hT => tstep_any w t e s pm F H hT h.1) ho.ok ho.xs ho.lim ho.ch
theorem MidS.abort (h : MidS w1 w bk t cf s o ob) : Calls Tryz.prog 25 #[ptrV t] w fun r w' => r = .returned (.int .i64 s.abort.1) ∧ MidS w1 w' bk t cf s.abort.2 o ob := by
  obtain ⟨o1, o2, o3, o4, o5⟩ := abort_ok h.1
  exact h.turn (args := #[]) (fun e pm F H hT => tabort_any w t e s pm F H hT) o1 o2 o5 (abort_ch s)
theorem MidS.move (h : MidS w1 w bk t cf s o ob) (k : Int) : Calls Tryz.prog 24 #[ptrV t, .int .i64 k] w fun r w' => r = .returned (.int .i64 (s.move k).1) ∧ MidS w1 w' bk t cf (s.move k).2 o ob := by
  obtain ⟨o1, o2, o3, o4, o5⟩ := move_ok h.1 k
  exact h.turn (args := #[.int .i64 k]) (fun e pm F H hT => tmove_any w t e s pm F H k hT) o1 o2 o5 (move_ch s k)
theorem MidS.state (h : MidS w1 w bk t cf s o ob) : Calls Tryz.prog 16 #[ptrV t] w fun r w' => r = .returned (staV s.k (knM s.mv) (phM s.mv) (cpM s.mv) s.ms s.bs) ∧ MidS w1 w' bk t cf s o ob ∧ Below w.heap.size w w' := by
  have h0 := h
  obtain ⟨a, b, c, g, rs, A, h, _⟩ := h
  obtain ⟨_, e, pm, F, H, hT, rfl⟩ := h.law.tab
  exact (tstate_any w t e s pm F H hT).mono fun r w' hq => ⟨hq.1, h0.later hq.2, hq.2⟩
theorem MidS.cells (h : MidS w1 w bk t cf s o ob) : Calls Tryz.prog 20 #[ptrV t] w fun r w' => r = .returned (celV s.act (tgtM s.mv) (lgdM s.mv) s.b) ∧ MidS w1 w' bk t cf s o ob ∧ Below w.heap.size w w' := by
  have h0 := h
  obtain ⟨a, b, c, g, rs, A, h, _⟩ := h
  obtain ⟨_, e, pm, F, H, hT, rfl⟩ := h.law.tab
  exact (tcells_any w t e s pm F H hT).mono fun r w' hq => ⟨hq.1, h0.later hq.2, hq.2⟩
theorem MidS.uses (h : MidS w1 w bk t cf s o ob) : Calls Tryz.prog 19 #[ptrV bk] w fun r w' => r = .returned (.int .i64 s.use) ∧ MidS w1 w' bk t cf s o ob ∧ Below w.heap.size w w' := by
  have h0 := h
  obtain ⟨a, b, c, g, rs, A, h, _⟩ := h
  exact (use_any tab3 tab3_works w bk g t cf rs s A h.law).mono fun r w' hq => ⟨hq.1, h0.later hq.2, hq.2⟩
theorem MidS.count (h : MidS w1 w bk t cf s o ob) : Calls Tryz.prog 30 #[ptrV bk] w fun r w' => r = .returned (.int .i64 (s.xs.length : Nat)) ∧ Below w.heap.size w w' := by
  obtain ⟨a, b, c, g, rs, A, h, _⟩ := h
  exact bookCount_any w bk g t cf rs s.xs h.law.book h.law.tie a.sorted a.ok
end

-- a step that is an Add or a Delete
set_option maxHeartbeats 1000000 in
theorem step12_any (c : TabC) (hc : c.Works) (w : World) (bk g t : Nat) (cf : Cfg) (rs : Nat → Int) (s : c.S) (F : List Nat) (hL : Law c w bk g t cf rs s F) (k a l n : Int) (hk : k = 1 ∨ k = 2) (v : Value) (cs : List Chg) (hv : ChgsAt w v cs) :
    Calls Tryz.prog 14 #[ptrV bk, stepV k a l n v] w (LawPost c bk g t cf s F w) := by
  have hx := hL.book.x
  have hl := hL.book.lt.1
  have hB1 : Below w.heap.size w (w.alloc (.cells #[.int .i64 k, .int .i64 a, .int .i64 l, .int .i64 n, v] 35)) := (Below.refl _ w).alloc (Nat.le_refl _) _
  have hL1 := hL.later hB1
  have HB1 := hide hB1
  have hve := hv
  obtain ⟨va, vc, hve, _, _⟩ := hve
  rcases hk with rfl | rfl
  · have hcall := hide (adds_any c hc _ bk g t cf rs s F hL1 1 a l n v)
    subst hve
    clear hL1 hB1 hL hv
    go_enter Tryz.func14, Tryz.ntmps14
    go_wp2_with (go_at_call 36; refine hcall.out.mono ?_; rintro r w' hpost; (have hp2 := hide (hpost.back HB1.out)); obtain ⟨rfl, -⟩ := hpost)
    go_ret
    exact hp2.out
  · have hcall := hide (deletes_any c hc _ bk g t cf rs s F hL1 2 a l n v)
    subst hve
    clear hL1 hB1 hL hv
    go_enter Tryz.func14, Tryz.ntmps14
    go_wp2_with (go_at_call 37; refine hcall.out.mono ?_; rintro r w' hpost; (have hp2 := hide (hpost.back HB1.out)); obtain ⟨rfl, -⟩ := hpost)
    go_ret
    exact hp2.out

end Go.Proofs.YtglbamalagacgaaGreat

import Derived.Test.YtglbamalagacgaaGreatA8
import Derived.Test.YtglbamalagacgaaGreatA9
import Derived.Test.YtglbamalagacgaaGreatS1
import Derived.Test.YtglbamalagacgaaGreatT1
namespace Go.Proofs.YtglbamalagacgaaGreat
open Go.RowKit
set_option maxHeartbeats 400000 in
theorem rgsBest_any (p : Nat) (xs : List Ent) (F : List Nat) (a : Int) (w : World) (hR : RangesF w p xs F) (hk : ∀ x ∈ xs, okE x) (ha : 0 <= a) (ha' : a < 256) :
  Calls Tryz.prog 201 #[ptrV p, .int .i64 a] w fun r w' => Below w.heap.size w w' /\ r = .returned (.tuple #[R.rteO (bestE xs a), .bool (bestE xs a).isSome]) := by
 obtain ⟨lp, sp, F1, F2, h, rfl⟩ := hR
 have c1 : w.cell? ⟨p, 1, none⟩ = some (ptrV sp) := by simp [World.cell?, h.blk]
 have hpl := h.lt
 have hB1 : Below w.heap.size w (w.alloc R.zR) := (Below.refl _ w).alloc (Nat.le_refl _) _
 have h1 := h.later hB1
 have hla := R.last_F sp (strL xs) F2 a _ h1.str
 obtain ⟨m, rfl⟩ : ∃ m : Nat, a = (m : Int) := ⟨a.toNat, by omega⟩
 have hlc := last_canon (xs := xs) (strL_sorted xs) m (by omega) (fun k _ => strL_get xs k)
 rw [hlc] at hla
 have hsome : ((rt xs m).n != 0) = (bestE xs m).isSome := by
  unfold rt
  cases hb : bestE xs m with
  | none => rfl
  | some x =>
   have : ∀ n, bestN xs m n = some x -> 1 <= x.n := by
    intro n
    induction n with
    | zero => intro h; cases h
    | succ n ih =>
     intro h
     rw [bestN] at h
     cases hg : getE xs (cov m n) n with
     | none => rw [hg] at h; exact ih h
     | some k =>
      rw [hg] at h
      cases h
      exact (hk _ (getE_in hg)).2.1
   have := this 9 hb
   simp; omega
 have Hla := hide hla
 have HS := hide hsome
 have HR := hide (rteO_rt xs m)
 clear h h1 hla hlc hsome
 rw [<- HS.out, HR.out]
 generalize rt xs (m : Int) = r at *
 clear HS HR
 go_enter Tryz.func201, Tryz.ntmps201
 go_wp2_with fail
 refine Hla.out.mono ?_
 rintro _ w2 ⟨hB2, rfl⟩
 have r0 : w2.cell? ⟨w.heap.size, 0, none⟩ = some (.int .i64 0) := (hB2.cell (p := ⟨w.heap.size, 0, none⟩) (by simp)).trans (by simp [go_sem])
 have r1 : w2.cell? ⟨w.heap.size, 1, none⟩ = some (.int .i64 0) := (hB2.cell (p := ⟨w.heap.size, 1, none⟩) (by simp)).trans (by simp [go_sem])
 have r2 : w2.cell? ⟨w.heap.size, 2, none⟩ = some (.int .i64 0) := (hB2.cell (p := ⟨w.heap.size, 2, none⟩) (by simp)).trans (by simp [go_sem])
 have rf : ∀ o, w2.frozen? ⟨w.heap.size, o, none⟩ = false := fun o => (hB2.frozen (p := ⟨w.heap.size, o, none⟩) (by simp)).trans (by simp [go_sem])
 have hwl : w.heap.size < w2.heap.size := by have := hB2.size; simp at this; omega
 have hwn : w2.heap.size ≠ w.heap.size := by omega
 have hwn2 : w.heap.size ≠ w2.heap.size := by omega
 have hB3 := hB1.trans (hB2.mono (by simp))
 clear hB1 hB2 Hla
 simp only [R.rteO, Option.isSome_some]
 go_wp2
 go_region
 go_wp2
 exact bodyPost_ret (v := .tuple #[rteV r.a r.l r.n, .bool (r.n != 0)]) (by simp [results, Tryz.results201, go_sem, *]) rfl ⟨(by repeat (first | exact Below.refl _ _ | refine below_drewN ?_ _ | refine Below.drew ?_ | refine Below.trans ?_ (Below.mono (by assumption) ?_) | refine Below.alloc ?_ ?_ _ | refine Below.setCell ?_ ?_ _ | omega | (simp; omega) | simp)), rfl⟩
def bv (o : Option Ent) : Ent := o.getD ⟨0, 0, 0⟩
theorem rteO_bv (o : Option Ent) : R.rteO o = rteV (bv o).a (bv o).l (bv o).n := by cases o <;> rfl
theorem bestN_pos {xs : List Ent} (hk : ∀ x ∈ xs, okE x) {a : Int} {x : Ent} : ∀ n, bestN xs a n = some x -> 1 <= x.n
 | 0, h => by cases h
 | n + 1, h => by
  rw [bestN] at h
  cases hg : getE xs (cov a n) n with
  | none => rw [hg] at h; exact bestN_pos hk n h
  | some k => rw [hg] at h; cases h; exact (hk _ (getE_in hg)).2.1
theorem bestN_bool {xs : List Ent} (hk : ∀ x ∈ xs, okE x) (a : Int) (n : Nat) : ((bv (bestN xs a n)).n != 0) = (bestN xs a n).isSome := by
 cases hb : bestN xs a n with
 | none => rfl
 | some x =>
  have := bestN_pos hk n hb
  simp [bv]; omega
theorem bestN_step {xs : List Ent} (hk : ∀ x ∈ xs, okE x) {a : Int} {i : Nat} : bestN xs a (i + 1) = if orZ (getE xs (cov a i) i) = 0 then bestN xs a i else some ⟨cov a i, i, orZ (getE xs (cov a i) i)⟩ := by
 rw [bestN]
 cases hg : getE xs (cov a i) i with
 | none => rfl
 | some k =>
  have h : 1 <= k := (hk _ (getE_in hg)).2.1
  have h2 : ¬ orZ (some k) = 0 := fun e => by
   have : k = 0 := e
   omega
  rw [if_neg h2]
  rfl
theorem bestN_stop {xs : List Ent} (hk : ∀ x ∈ xs, okE x) {a : Int} (i : Nat) (hz : ∀ j, i <= j -> j <= 8 -> orZ (getE xs (cov a j) j) = 0) : ∀ d, i + d <= 9 -> bestN xs a (i + d) = bestN xs a i
 | 0, _ => rfl
 | d + 1, h => by rw [<- Nat.add_assoc, bestN_step hk, if_pos (hz (i + d) (by omega) (by omega)), bestN_stop hk i hz d (by omega)]
structure BtI (w wr : World) (xs : List Ent) (a : Int) (i : Nat) : Prop where
 bel : Below w.heap.size w wr
 res : wr.heap[w.heap.size]? = some R.zR
 bst : wr.heap[w.heap.size + 1]? = some (.cells #[.int .i64 (bv (bestN xs a i)).a, .int .i64 (bv (bestN xs a i)).l, .int .i64 (bv (bestN xs a i)).n] 90 (0, 0))
theorem BtI.drewI {w wr : World} {xs : List Ent} {a : Int} {i : Nat} (h : BtI w wr xs a i) (n : Nat) : BtI w (wr.drewN n) xs a i :=
 have hB := below_drewN (Below.refl wr.heap.size wr) n
 ⟨below_drewN h.bel n, (hB.block _ (Array.getElem?_eq_some_iff.1 h.res).1).trans h.res, (hB.block _ (Array.getElem?_eq_some_iff.1 h.bst).1).trans h.bst⟩
set_option maxHeartbeats 1600000 in
theorem trBest_any (p : Nat) (xs : List Ent) (F : List Nat) (a : Int) (w : World) (hT : TrieF w p xs F) (hk : ∀ x ∈ xs, okE x) (ha : 0 <= a) (ha' : a < 256) :
  Calls Tryz.prog 189 #[ptrV p, .int .i64 a] w fun r w' => Below w.heap.size w w' /\ r = .returned (.tuple #[R.rteO (bestE xs a), .bool (bestE xs a).isSome]) := by
 obtain ⟨B, hM, hp, hx, hF⟩ := hT
 have hA : a.toNat < 256 := by omega
 have hpl := hM.lt hp
 have HM := hide hM
 have hval : ∀ i : Nat, i <= 8 -> vE xs (pcn a.toNat i) = orZ (getE xs (cov a i) i) := fun i hi => by
  have h1 := vE_get hk (cov_pfx ha ha' hi)
  have h2 : pcE (cov a i) i = pcn a.toNat i := by unfold pcE; rw [Int.toNat_natCast]; exact pcn_cov ha ha' hi
  rw [h2] at h1
  exact h1
 have Hval := hide hval
 have Hstop := hide (show ∀ i : Nat, i <= 8 -> B (pcn a.toNat i) = none -> bestE xs a = bestN xs a i from fun i hi hn => by
  have := bestN_stop hk (a := a) i (fun j h1 h2 => by
   rw [<- hval j h2]
   by_cases hi0 : i = 0
   ·subst hi0; rw [pcn_zero hA, hp] at hn; cases hn
   ·refine upd_anc hx (h := pcn a.toNat i) ?_ (pcn_anc _ h1 h2) hn
    have := (pcn_bd (A := a.toNat) (i := i) hA hi).1
    have : 2 ^ 1 <= 2 ^ i := Nat.pow_le_pow_right (by omega) (by omega)
    omega) (9 - i) (by omega)
  rw [show i + (9 - i) = 9 by omega] at this
  exact this)
 have Hk := hide hk
 have hB1 : Below w.heap.size w (w.alloc R.zR) := (Below.refl _ w).alloc (Nat.le_refl _) _
 have hB2 : Below w.heap.size w ((w.alloc R.zR).alloc (.cells #[.int .i64 0, .int .i64 0, .int .i64 0] 90)) := hB1.alloc (by simp) _
 have H0 : Hid (BtI w ((w.alloc R.zR).alloc (.cells #[.int .i64 0, .int .i64 0, .int .i64 0] 90)) xs a 0) :=
  ⟨hB2, (Below.heap_alloc _ _ _ (by simp)).trans (World.alloc_heap_new w _), by have := World.alloc_heap_new (w.alloc R.zR) (.cells #[.int .i64 0, .int .i64 0, .int .i64 0] 90); rwa [World.size_alloc] at this⟩
 have h00 : ptrO (B (pcn a.toNat 0)) = ptrV p := by rw [pcn_zero hA, hp]; rfl
 have H00 := hide h00
 clear hM hx hF hval hk hB1 hB2 h00
 go_enter Tryz.func189, Tryz.ntmps189
 go_wp2
 go_loopw [7, 8] (fun pn sl wr => ∃ i : Nat, i <= 8 /\ pn = ptrO (B (pcn a.toNat i)) /\ sl = .int .i64 (i : Int) /\ Hid (BtI w wr xs a i)) (fun _ s _ => 9 - (intOf s).toNat)
 case atStart => exact ⟨0, by omega, H00.out.symm, rfl, H0⟩
 case round =>
  obtain ⟨i, hi, rfl, rfl, HI⟩ := hrel
  have hbel := HI.out.bel
  have hres := HI.out.res
  have hbst := HI.out.bst
  have z1 := (Array.getElem?_eq_some_iff.1 hbst).1
  have z0 : w.heap.size < wr.heap.size := by omega
  have r0 : wr.cell? ⟨w.heap.size, 0, none⟩ = some (.int .i64 0) := by simp [World.cell?, hres]
  have r1 : wr.cell? ⟨w.heap.size, 1, none⟩ = some (.int .i64 0) := by simp [World.cell?, hres]
  have r2 : wr.cell? ⟨w.heap.size, 2, none⟩ = some (.int .i64 0) := by simp [World.cell?, hres]
  have rf : ∀ o, wr.frozen? ⟨w.heap.size, o, none⟩ = false := fun o => by simp [World.frozen?, hres]
  have s0 : wr.cell? ⟨w.heap.size + 1, 0, none⟩ = some (.int .i64 (bv (bestN xs a i)).a) := by simp [World.cell?, hbst]
  have s1 : wr.cell? ⟨w.heap.size + 1, 1, none⟩ = some (.int .i64 (bv (bestN xs a i)).l) := by simp [World.cell?, hbst]
  have s2 : wr.cell? ⟨w.heap.size + 1, 2, none⟩ = some (.int .i64 (bv (bestN xs a i)).n) := by simp [World.cell?, hbst]
  have sf : ∀ o, wr.frozen? ⟨w.heap.size + 1, o, none⟩ = false := fun o => by simp [World.frozen?, hbst]
  cases hn : B (pcn a.toNat i) with
  | none =>
   rw [ptrO_none]
   have hst := Hstop.out i hi hn
   have hbo := bestN_bool Hk.out a i
   have HE := hide (show R.rteO (bestE xs a) = rteV (bv (bestN xs a i)).a (bv (bestN xs a i)).l (bv (bestN xs a i)).n /\ (bestE xs a).isSome = ((bv (bestN xs a i)).n != 0) from ⟨by rw [hst, rteO_bv], by rw [hst, hbo]⟩)
   clear hst hbo hbst hres hn HI
   generalize bv (bestN xs a i) = r at *
   go_wp2
   go_region
   go_wp2
   exact bodyPost_ret (v := .tuple #[rteV r.a r.l r.n, .bool (r.n != 0)]) (by simp [results, Tryz.results189, go_sem, *]) rfl ⟨(by repeat (first | exact Below.refl _ _ | refine below_drewN ?_ _ | refine Below.drew ?_ | refine Below.trans ?_ (Below.mono (by assumption) ?_) | refine Below.alloc ?_ ?_ _ | refine Below.setCell ?_ ?_ _ | omega | (simp; omega) | simp)), by rw [HE.out.1, HE.out.2]⟩
  | some nb =>
   rw [ptrO_some]
   have hMr := HM.out.later hbel
   have c0 := hMr.c0 hn
   rw [Hval.out i hi] at c0
   have c1 := hMr.c1 hn
   have c2 := hMr.c2 hn
   have hnw := HM.out.lt hn
   have hnl : nb < wr.heap.size := by omega
   have m1 : nb ≠ w.heap.size + 1 := by omega
   have m2 : w.heap.size + 1 ≠ nb := by omega
   have m3 : w.heap.size ≠ w.heap.size + 1 := by omega
   have m4 : w.heap.size + 1 ≠ w.heap.size := by omega
   have hi8 : (i : Int) <= 8 := by omega
   have hi0 : (0 : Int) <= (i : Int) := by omega
   have hstep := bestN_step (i := i) (a := a) Hk.out
   by_cases hv : orZ (getE xs (cov a i) i) = 0
   ·rw [if_pos hv] at hstep
    rw [hv] at c0
    have HB := hide (show BtI w wr xs a (i + 1) from ⟨hbel, hres, by rw [hstep]; exact hbst⟩)
    rw [<- hstep] at s0 s1 s2
    clear hbst hres hstep hv HI hMr
    by_cases h8 : i = 8
    ·subst h8
     have HE := hide (show R.rteO (bestE xs a) = rteV (bv (bestN xs a (8 + 1))).a (bv (bestN xs a (8 + 1))).l (bv (bestN xs a (8 + 1))).n /\ (bestE xs a).isSome = ((bv (bestN xs a (8 + 1))).n != 0) from ⟨by rw [<- rteO_bv]; rfl, by rw [bestN_bool Hk.out]; rfl⟩)
     clear c1 c2
     generalize bv (bestN xs a (8 + 1)) = r at *
     go_wp2
     go_region
     go_wp2
     exact bodyPost_ret (v := .tuple #[rteV r.a r.l r.n, .bool (r.n != 0)]) (by simp [results, Tryz.results189, go_sem, *]) rfl ⟨(by repeat (first | exact Below.refl _ _ | refine below_drewN ?_ _ | refine Below.drew ?_ | refine Below.trans ?_ (Below.mono (by assumption) ?_) | refine Below.alloc ?_ ?_ _ | refine Below.setCell ?_ ?_ _ | omega | (simp; omega) | simp)), by rw [HE.out.1, HE.out.2]⟩
    ·have h8' : ((i : Int) == 8) = false := by simp; omega
     have hlt8 : (i : Int) < 8 := by omega
     have hw1 : IntKind.i64.wrap ((i : Int) + 1) = (i : Int) + 1 := by rw [IntKind.wrap_i64]; omega
     obtain ⟨s, hs, hs01⟩ := side_nat a i
     have hpc := pcn_side (i := i) ha ha' (by omega)
     rw [hs] at hpc
     have hsd := side_any a i hi0 hlt8 ha ha'
     rw [hs] at hsd
     have hnx : B (pcn a.toNat (i + 1)) = B (2 * pcn a.toNat i + s) := by congr 1; omega
     have Hnx := hide hnx
     clear hnx hpc s0 s1 s2 sf r0 r1 r2 rf hs
     rcases hs01 with rfl | rfl
     ·go_wp2
      go_quiet ((go_at_call 194; exact Calls.quiet_of_same (hsd _)))
      go_wp2
      go_roundw
      case rel => exact ⟨i + 1, by omega, (congrArg ptrO Hnx.out).symm, by simp, HB.out.drewI _⟩
      case measure => simp [intOf]; omega
     ·go_wp2
      go_quiet ((go_at_call 194; exact Calls.quiet_of_same (hsd _)))
      go_wp2
      go_roundw
      case rel => exact ⟨i + 1, by omega, (congrArg ptrO Hnx.out).symm, by simp, HB.out.drewI _⟩
      case measure => simp [intOf]; omega
   ·rw [if_neg hv] at hstep
    have hv' : (orZ (getE xs (cov a i) i) != 0) = true := by simpa using hv
    have hcov := hide (fun W => covering_any a i hi0 hi8 ha ha' W)
    have hro := hide (fun n W => route_any (cov a i) i n W)
    have hcv : a - a % wid i = cov a i := rfl
    have Hcv := hide hcv
    have Hst := hide hstep
    have Hmake := hide (show ∀ (w2 w3 : World), Below wr.heap.size wr w2 -> w3 = ((w2.setCell ⟨w.heap.size + 1, 0, none⟩ (.int .i64 (cov a i))).setCell ⟨w.heap.size + 1, 1, none⟩ (.int .i64 (i : Int))).setCell ⟨w.heap.size + 1, 2, none⟩ (.int .i64 (orZ (getE xs (cov a i) i))) -> BtI w w3 xs a (i + 1) /\ TrM w3 B (vE xs) from by
     rintro w2 w3 hB2 rfl
     have hb2 := (hB2.block _ z1).trans hbst
     have hr2 := (hB2.block _ z0).trans hres
     have hbw : Below w.heap.size w w2 := hbel.trans (hB2.mono hbel.size)
     refine ⟨⟨((hbw.setCell (by simp) _).setCell (by simp) _).setCell (by simp) _, ?_, ?_⟩, ?_⟩
     ·rw [Deep.blk_setCell_other _ _ _ _ m3, Deep.blk_setCell_other _ _ _ _ m3, Deep.blk_setCell_other _ _ _ _ m3]; exact hr2
     ·rw [R.set3 hb2 0 1 2, setRow_heap _ _ _ _ _ _ hb2, hstep]; rfl
     ·exact HM.out.later (((hbw.setCell (by simp) _).setCell (by simp) _).setCell (by simp) _))
    clear hbst hres hstep hv HI hMr hcv
    generalize orZ (getE xs (cov a i) i) = vv at *
    go_wp2
    go_region_with (first
      | (go_at_call 143; refine (hcov.out _).mono ?_; rintro _ w1 ⟨rfl, hb1⟩; (have k0 : w1.cell? ⟨nb, 0, none⟩ = some (.int .i64 vv) := ((bcell hb1).1 nb 0 hnl).trans c0); (have t0 : w1.cell? ⟨w.heap.size + 1, 0, none⟩ = _ := ((bcell hb1).1 _ 0 z1).trans s0); (have t1 : w1.cell? ⟨w.heap.size + 1, 1, none⟩ = _ := ((bcell hb1).1 _ 1 z1).trans s1); (have t2 : w1.cell? ⟨w.heap.size + 1, 2, none⟩ = _ := ((bcell hb1).1 _ 2 z1).trans s2); (have tf : ∀ o, w1.frozen? ⟨w.heap.size + 1, o, none⟩ = false := fun o => ((bcell hb1).2 _ o z1).trans (sf o)); (have y1 : w.heap.size + 1 < w1.heap.size := Nat.lt_of_lt_of_le z1 hb1.size))
      | (go_at_call 123; rw [Hcv.out]; refine (hro.out _ _).mono ?_; rintro _ w2 ⟨rfl, hb2⟩; (have x0 : w2.cell? ⟨w.heap.size + 1, 0, none⟩ = _ := ((bcell hb2).1 _ 0 y1).trans t0); (have x1 : w2.cell? ⟨w.heap.size + 1, 1, none⟩ = _ := ((bcell hb2).1 _ 1 y1).trans t1); (have x2 : w2.cell? ⟨w.heap.size + 1, 2, none⟩ = _ := ((bcell hb2).1 _ 2 y1).trans t2); (have xf : ∀ o, w2.frozen? ⟨w.heap.size + 1, o, none⟩ = false := fun o => ((bcell hb2).2 _ o y1).trans (tf o))))
    all_goals
     obtain ⟨W3, hW3⟩ : ∃ W3, W3 = ((w2.setCell ⟨w.heap.size + 1, 0, none⟩ (.int .i64 (cov a i))).setCell ⟨w.heap.size + 1, 1, none⟩ (.int .i64 (i : Int))).setCell ⟨w.heap.size + 1, 2, none⟩ (.int .i64 vv) := ⟨_, rfl⟩
     obtain ⟨hBt, hMt⟩ := Hmake.out w2 W3 (((Below.refl _ wr).drew.trans hb1).trans (hb2.mono (Nat.le_trans (by simp) hb1.size))) hW3
     rw [<- hW3]
     have HB := hide hBt
     have hbel2 := hBt.bel
     have hres2 := hBt.res
     have hbst2 := hBt.bst
     have z13 := (Array.getElem?_eq_some_iff.1 hbst2).1
     have z03 : w.heap.size < W3.heap.size := by omega
     have hnl3 : nb < W3.heap.size := by omega
     clear r0 r1 r2 rf s0 s1 s2 sf c0 c1 c2 k0 t0 t1 t2 tf y1 x0 x1 x2 xf hb1 hb2 hW3 Hmake hcov hro hbel z0 z1 hnl hv'
     have r0 : W3.cell? ⟨w.heap.size, 0, none⟩ = some (.int .i64 0) := by simp [World.cell?, hres2]
     have r1 : W3.cell? ⟨w.heap.size, 1, none⟩ = some (.int .i64 0) := by simp [World.cell?, hres2]
     have r2 : W3.cell? ⟨w.heap.size, 2, none⟩ = some (.int .i64 0) := by simp [World.cell?, hres2]
     have rf : ∀ o, W3.frozen? ⟨w.heap.size, o, none⟩ = false := fun o => by simp [World.frozen?, hres2]
     have s0 : W3.cell? ⟨w.heap.size + 1, 0, none⟩ = some (.int .i64 (bv (bestN xs a (i + 1))).a) := by simp [World.cell?, hbst2]
     have s1 : W3.cell? ⟨w.heap.size + 1, 1, none⟩ = some (.int .i64 (bv (bestN xs a (i + 1))).l) := by simp [World.cell?, hbst2]
     have s2 : W3.cell? ⟨w.heap.size + 1, 2, none⟩ = some (.int .i64 (bv (bestN xs a (i + 1))).n) := by simp [World.cell?, hbst2]
     have sf : ∀ o, W3.frozen? ⟨w.heap.size + 1, o, none⟩ = false := fun o => by simp [World.frozen?, hbst2]
     have c1 := hMt.c1 hn
     have c2 := hMt.c2 hn
     clear hBt hMt hres2 hbst2
     by_cases h8 : i = 8
     ·subst h8
      have HE := hide (show R.rteO (bestE xs a) = rteV (bv (bestN xs a (8 + 1))).a (bv (bestN xs a (8 + 1))).l (bv (bestN xs a (8 + 1))).n /\ (bestE xs a).isSome = ((bv (bestN xs a (8 + 1))).n != 0) from ⟨by rw [<- rteO_bv]; rfl, by rw [bestN_bool Hk.out]; rfl⟩)
      clear c1 c2
      generalize bv (bestN xs a (8 + 1)) = r at *
      go_wp2
      go_region
      go_wp2
      exact bodyPost_ret (v := .tuple #[rteV r.a r.l r.n, .bool (r.n != 0)]) (by simp [results, Tryz.results189, go_sem, *]) rfl ⟨(by repeat (first | exact Below.refl _ _ | refine below_drewN ?_ _ | refine Below.drew ?_ | refine Below.trans ?_ (Below.mono (by assumption) ?_) | refine Below.alloc ?_ ?_ _ | refine Below.setCell ?_ ?_ _ | omega | (simp; omega) | simp)), by rw [HE.out.1, HE.out.2]⟩
     ·have h8' : ((i : Int) == 8) = false := by simp; omega
      have hlt8 : (i : Int) < 8 := by omega
      have hw1 : IntKind.i64.wrap ((i : Int) + 1) = (i : Int) + 1 := by rw [IntKind.wrap_i64]; omega
      obtain ⟨s, hs, hs01⟩ := side_nat a i
      have hpc := pcn_side (i := i) ha ha' (by omega)
      rw [hs] at hpc
      have hsd := side_any a i hi0 hlt8 ha ha'
      rw [hs] at hsd
      have hnx : B (pcn a.toNat (i + 1)) = B (2 * pcn a.toNat i + s) := by congr 1; omega
      have Hnx := hide hnx
      clear hnx hpc s0 s1 s2 sf r0 r1 r2 rf hs
      rcases hs01 with rfl | rfl
      ·go_wp2
       go_quiet ((go_at_call 194; exact Calls.quiet_of_same (hsd _)))
       go_wp2
       go_roundw
       case rel => exact ⟨i + 1, by omega, (congrArg ptrO Hnx.out).symm, by simp, HB.out.drewI _⟩
       case measure => simp [intOf]; omega
      ·go_wp2
       go_quiet ((go_at_call 194; exact Calls.quiet_of_same (hsd _)))
       go_wp2
       go_roundw
       case rel => exact ⟨i + 1, by omega, (congrArg ptrO Hnx.out).symm, by simp, HB.out.drewI _⟩
       case measure => simp [intOf]; omega
end Go.Proofs.YtglbamalagacgaaGreat

namespace Go.Proofs.YtglbamalagacgaaGreat
open Go.RowKit Go.Shelf
theorem ml_b (p : Nat) : Meth 128 p "Best" 138 := ⟨fun _ => by kernel_rfl, fun _ => by kernel_rfl, fun _ _ => by kernel_rfl⟩
theorem mt_b (p : Nat) : Meth 129 p "Best" 189 := ⟨fun _ => by kernel_rfl, fun _ => by kernel_rfl, fun _ _ => by kernel_rfl⟩
theorem mr_b (p : Nat) : Meth 130 p "Best" 201 := ⟨fun _ => by kernel_rfl, fun _ => by kernel_rfl, fun _ _ => by kernel_rfl⟩
structure EngB (e : Value) (T p fb : Nat) : Prop where
 eq : e = .iface T (ptrV p)
 mb : Meth T p "Best" fb
 best : ∀ w xs F a, EngF w e xs F -> 0 <= a -> a < 256 -> Calls Tryz.prog fb #[ptrV p, .int .i64 a] w fun r w' => Below w.heap.size w w' /\ r = .returned (.tuple #[R.rteO (bestE xs a), .bool (bestE xs a).isSome])
theorem EngF.dispB {w : World} {e : Value} {xs : List Ent} {F : List Nat} (h : EngF w e xs F) : ∃ T p fb, EngB e T p fb := by
 obtain ⟨_, _, T, p, rfl, (⟨rfl, _⟩ | ⟨rfl, _⟩ | ⟨rfl, _⟩)⟩ := h
 ·exact ⟨_, _, _, rfl, ml_b p, fun w xs F a h h0 h1 => by obtain ⟨_, h2, h3⟩ := h.list; exact lstBest_any p xs F a w h3 h0 h1⟩
 ·exact ⟨_, _, _, rfl, mt_b p, fun w xs F a h h0 h1 => by obtain ⟨_, h2, h3⟩ := h.trie; exact trBest_any p xs F a w h3 h2 h0 h1⟩
 ·exact ⟨_, _, _, rfl, mr_b p, fun w xs F a h h0 h1 => by obtain ⟨_, h2, h3⟩ := h.ranges; exact rgsBest_any p xs F a w h3 h2 h0 h1⟩
end Go.Proofs.YtglbamalagacgaaGreat

namespace Go.Proofs.YtglbamalagacgaaGreat
open Go.RowKit Go.Shelf
attribute [local go_sem] Oper.semAt_some
set_option maxRecDepth 8000 in
set_option maxHeartbeats 400000 in
theorem kind_any (e : Value) (xs : List Ent) (F : List Nat) (w : World) (hE : EngF w e xs F) :
  Calls Tryz.prog 45 #[e] w fun r w' => r = .returned (.int .i64 (kindE e)) /\ Below w.heap.size w w' := by
 obtain ⟨_, _, T, p, rfl, h⟩ := hE
 rcases h with ⟨rfl, _⟩ | ⟨rfl, _⟩ | ⟨rfl, _⟩
 ·have t0 : ∀ w, (Instr.typeAssert (.iface 128 (ptrV p)) 95 128 true).run Tryz.prog w = .ok (.tuple #[ptrV p, .bool true]) w := fun w => by kernel_rfl
  go_enter Tryz.func45, Tryz.ntmps45
  go_wp2
  go_ret
  exact ⟨rfl, (by repeat (first | exact Below.refl _ _ | refine below_drewN ?_ _ | refine Below.drew ?_ | refine Below.trans ?_ (Below.mono (by assumption) ?_) | refine Below.alloc ?_ ?_ _ | refine Below.setCell ?_ ?_ _ | omega | (simp; omega) | simp))⟩
 ·have t0 : ∀ w, (Instr.typeAssert (.iface 129 (ptrV p)) 95 128 true).run Tryz.prog w = .ok (.tuple #[.pointer none, .bool false]) w := fun w => by kernel_rfl
  have t1 : ∀ w, (Instr.typeAssert (.iface 129 (ptrV p)) 95 129 true).run Tryz.prog w = .ok (.tuple #[ptrV p, .bool true]) w := fun w => by kernel_rfl
  go_enter Tryz.func45, Tryz.ntmps45
  go_wp2
  go_ret
  exact ⟨rfl, (by repeat (first | exact Below.refl _ _ | refine below_drewN ?_ _ | refine Below.drew ?_ | refine Below.trans ?_ (Below.mono (by assumption) ?_) | refine Below.alloc ?_ ?_ _ | refine Below.setCell ?_ ?_ _ | omega | (simp; omega) | simp))⟩
 ·have t0 : ∀ w, (Instr.typeAssert (.iface 130 (ptrV p)) 95 128 true).run Tryz.prog w = .ok (.tuple #[.pointer none, .bool false]) w := fun w => by kernel_rfl
  have t1 : ∀ w, (Instr.typeAssert (.iface 130 (ptrV p)) 95 129 true).run Tryz.prog w = .ok (.tuple #[.pointer none, .bool false]) w := fun w => by kernel_rfl
  have t2 : ∀ w, (Instr.typeAssert (.iface 130 (ptrV p)) 95 130 true).run Tryz.prog w = .ok (.tuple #[ptrV p, .bool true]) w := fun w => by kernel_rfl
  go_enter Tryz.func45, Tryz.ntmps45
  go_wp2
  go_ret
  exact ⟨rfl, (by repeat (first | exact Below.refl _ _ | refine below_drewN ?_ _ | refine Below.drew ?_ | refine Below.trans ?_ (Below.mono (by assumption) ?_) | refine Below.alloc ?_ ?_ _ | refine Below.setCell ?_ ?_ _ | omega | (simp; omega) | simp))⟩
end Go.Proofs.YtglbamalagacgaaGreat

namespace Go.Proofs.YtglbamalagacgaaGreat
open Go.RowKit Go.Shelf
attribute [local go_sem] Oper.semAt_some
set_option maxHeartbeats 400000 in
theorem isBudget_any (n : Int) (w : World) :
  Calls Tryz.prog 76 #[.int .i64 n] w fun r w' => w' = w /\ r = .returned (.bool (decide (1 <= n) && decide (n <= 400))) := by
 by_cases h : 1 <= n
 ·go_enter Tryz.func76, Tryz.ntmps76
  go_wp2
  go_ret
  exact ⟨rfl, ret_bool (by simp [h])⟩
 ·have h2 : decide (1 <= n) = false := decide_eq_false h
  go_enter Tryz.func76, Tryz.ntmps76
  go_wp2
  go_ret
  exact ⟨rfl, ret_bool (by simp)⟩
theorem isBudget_yes (n : Int) (w : World) (h : 1 <= n /\ n <= 400) : Calls Tryz.prog 76 #[.int .i64 n] w fun r w' => w' = w /\ r = .returned (.bool true) := by
 have := isBudget_any n w
 rwa [show (decide (1 <= n) && decide (n <= 400)) = true by simp; omega] at this
theorem isBudget_no (n : Int) (w : World) (h : ¬ (1 <= n /\ n <= 400)) : Calls Tryz.prog 76 #[.int .i64 n] w fun r w' => w' = w /\ r = .returned (.bool false) := by
 have := isBudget_any n w
 rwa [show (decide (1 <= n) && decide (n <= 400)) = false by rw [Bool.and_eq_false_iff, decide_eq_false_iff_not, decide_eq_false_iff_not]; omega] at this
set_option maxHeartbeats 400000 in
theorem isConfig_yes (cf : Cfg) (w : World) (h : isCfg cf) : Calls Tryz.prog 64 #[cfgV cf] w fun r w' => r = .returned (.bool true) /\ Below w.heap.size w w' := by
 obtain ⟨e, b, ch, lg⟩ := cf
 obtain ⟨d1, d2, d3, d4, d5, d6, d7, d8⟩ := h
 simp only at d1 d2 d3 d4 d5 d6 d7 d8
 have hb := hide (isBudget_yes b (w.alloc (.cells #[.int .i64 e, .int .i64 b, .int .i64 ch, .int .i64 lg] 23)) ⟨d3, d4⟩)
 go_enter Tryz.func64, Tryz.ntmps64
 go_wp2_with fail
 refine hb.out.mono ?_
 rintro _ w2 ⟨rfl, rfl⟩
 go_wp2
 go_ret
 exact ⟨rfl, (Below.refl _ w).alloc (Nat.le_refl _) _⟩
set_option maxHeartbeats 1000000 in
theorem isConfig_no (cf : Cfg) (w : World) (h : ¬ isCfg cf) : Calls Tryz.prog 64 #[cfgV cf] w fun r w' => r = .returned (.bool false) /\ Below w.heap.size w w' := by
 have hcs := cfg_cases cf
 obtain ⟨e, b, ch, lg⟩ := cf
 simp only at hcs
 have fin := hide (show Below w.heap.size w (w.alloc (.cells #[.int .i64 e, .int .i64 b, .int .i64 ch, .int .i64 lg] 23)) from (Below.refl _ w).alloc (Nat.le_refl _) _)
 rcases hcs with h1 | h1 | ⟨d1, d2⟩ | ⟨d1, d2, d3⟩ | ⟨d1, d2, d3, d4⟩ | ⟨d1, d2, d3, d4, d5⟩ | ⟨d1, d2, d3, d4, d5, d6⟩ | ⟨d1, d2, d3, d4, d5, d6, d7⟩ | ⟨d1, d2, d3, d4, d5, d6, d7, d8⟩
 ·exact absurd h1 h
 ·have q : decide (1 <= e) = false := decide_eq_false (by omega)
  clear h
  go_enter Tryz.func64, Tryz.ntmps64
  go_wp2
  go_ret
  exact ⟨rfl, fin.out⟩
 ·have q : decide (e <= 3) = false := decide_eq_false (by omega)
  clear h
  go_enter Tryz.func64, Tryz.ntmps64
  go_wp2
  go_ret
  exact ⟨rfl, fin.out⟩
 ·have hb := hide (isBudget_no b (w.alloc (.cells #[.int .i64 e, .int .i64 b, .int .i64 ch, .int .i64 lg] 23)) (by omega))
  clear h d3
  go_enter Tryz.func64, Tryz.ntmps64
  go_wp2_with fail
  refine hb.out.mono ?_
  rintro _ w2 ⟨rfl, rfl⟩
  go_wp2
  go_ret
  exact ⟨rfl, fin.out⟩
 ·have hb := hide (isBudget_no b (w.alloc (.cells #[.int .i64 e, .int .i64 b, .int .i64 ch, .int .i64 lg] 23)) (by omega))
  clear h d3 d4
  go_enter Tryz.func64, Tryz.ntmps64
  go_wp2_with fail
  refine hb.out.mono ?_
  rintro _ w2 ⟨rfl, rfl⟩
  go_wp2
  go_ret
  exact ⟨rfl, fin.out⟩
 ·have hb := hide (isBudget_yes b (w.alloc (.cells #[.int .i64 e, .int .i64 b, .int .i64 ch, .int .i64 lg] 23)) ⟨d3, d4⟩)
  have q : decide (1 <= ch) = false := decide_eq_false (by omega)
  clear h d3 d4
  go_enter Tryz.func64, Tryz.ntmps64
  go_wp2_with fail
  refine hb.out.mono ?_
  rintro _ w2 ⟨rfl, rfl⟩
  go_wp2
  go_ret
  exact ⟨rfl, fin.out⟩
 ·have hb := hide (isBudget_yes b (w.alloc (.cells #[.int .i64 e, .int .i64 b, .int .i64 ch, .int .i64 lg] 23)) ⟨d3, d4⟩)
  have q : decide (ch <= 8) = false := decide_eq_false (by omega)
  clear h d3 d4
  go_enter Tryz.func64, Tryz.ntmps64
  go_wp2_with fail
  refine hb.out.mono ?_
  rintro _ w2 ⟨rfl, rfl⟩
  go_wp2
  go_ret
  exact ⟨rfl, fin.out⟩
 ·have hb := hide (isBudget_yes b (w.alloc (.cells #[.int .i64 e, .int .i64 b, .int .i64 ch, .int .i64 lg] 23)) ⟨d3, d4⟩)
  have q : decide (1 <= lg) = false := decide_eq_false (by omega)
  clear h d3 d4
  go_enter Tryz.func64, Tryz.ntmps64
  go_wp2_with fail
  refine hb.out.mono ?_
  rintro _ w2 ⟨rfl, rfl⟩
  go_wp2
  go_ret
  exact ⟨rfl, fin.out⟩
 ·have hb := hide (isBudget_yes b (w.alloc (.cells #[.int .i64 e, .int .i64 b, .int .i64 ch, .int .i64 lg] 23)) ⟨d3, d4⟩)
  have q : decide (lg <= 16) = false := decide_eq_false (by omega)
  clear h d3 d4
  go_enter Tryz.func64, Tryz.ntmps64
  go_wp2_with fail
  refine hb.out.mono ?_
  rintro _ w2 ⟨rfl, rfl⟩
  go_wp2
  go_ret
  exact ⟨rfl, fin.out⟩
set_option maxHeartbeats 400000 in
theorem new_no (w : World) (cf : Cfg) (h : ¬ isCfg cf) : Calls Tryz.prog 31 #[cfgV cf] w fun r w' => r = .returned (.tuple #[.pointer none, .int .i64 1]) /\ Below w.heap.size w w' := by
 have hB := hide (show Below w.heap.size w (w.alloc (.cells #[.int .i64 cf.e, .int .i64 cf.b, .int .i64 cf.c, .int .i64 cf.l] 23)) from (Below.refl _ w).alloc (Nat.le_refl _) _)
 have hc := hide (isConfig_no cf (w.alloc (.cells #[.int .i64 cf.e, .int .i64 cf.b, .int .i64 cf.c, .int .i64 cf.l] 23)) h)
 obtain ⟨e, b, ch, lg⟩ := cf
 go_enter Tryz.func31, Tryz.ntmps31
 go_wp2_with fail
 refine hc.out.mono ?_
 rintro _ w2 ⟨rfl, hb2⟩
 have fin := hide (hB.out.trans (hb2.mono hB.out.size))
 clear hb2 hc
 go_wp2
 go_ret2
 exact ⟨rfl, fin.out⟩
set_option maxHeartbeats 400000 in
theorem newEng_any (k : Int) (h1 : 1 <= k) (h3 : k <= 3) (w : World) : Calls Tryz.prog 56 #[.int .i64 k] w fun r w' => ∃ T q F, r = .returned (.iface T (ptrV q)) /\ Below w.heap.size w w' /\ EngF w' (.iface T (ptrV q)) [] F /\ kindE (.iface T (ptrV q)) = k /\ ∀ x ∈ F, w.heap.size <= x := by
 rcases (show k = 1 ∨ k = 2 ∨ k = 3 by omega) with rfl | rfl | rfl
 ·have hn := hide (newList_any w)
  go_enter Tryz.func56, Tryz.ntmps56
  go_wp2_with fail
  refine hn.out.mono ?_
  rintro _ w2 ⟨hB, p, F, h1, h2, rfl⟩
  have fin := hide (show ∃ T q F, Ending.returned (Value.iface 128 (ptrV p)) = .returned (.iface T (ptrV q)) /\ Below w.heap.size w w2 /\ EngF w2 (.iface T (ptrV q)) [] F /\ kindE (.iface T (ptrV q)) = 1 /\ ∀ x ∈ F, w.heap.size <= x from ⟨_, _, F, rfl, hB, .mkL List.Pairwise.nil (by simp) h1, rfl, h2⟩)
  clear h1 h2 hB
  go_wp2
  go_ret
  exact fin.out
 ·have hn := hide (newTrie_any w)
  go_enter Tryz.func56, Tryz.ntmps56
  go_wp2_with fail
  refine hn.out.mono ?_
  rintro _ w2 ⟨hB, p, F, h1, h2, rfl⟩
  have fin := hide (show ∃ T q F, Ending.returned (Value.iface 129 (ptrV p)) = .returned (.iface T (ptrV q)) /\ Below w.heap.size w w2 /\ EngF w2 (.iface T (ptrV q)) [] F /\ kindE (.iface T (ptrV q)) = 2 /\ ∀ x ∈ F, w.heap.size <= x from ⟨_, _, F, rfl, hB, .mkT List.Pairwise.nil (by simp) h1, rfl, h2⟩)
  clear h1 h2 hB
  go_wp2
  go_ret
  exact fin.out
 ·have hn := hide (newRanges_any w)
  go_enter Tryz.func56, Tryz.ntmps56
  go_wp2_with fail
  refine hn.out.mono ?_
  rintro _ w2 ⟨hB, p, F, h1, h2, rfl⟩
  have fin := hide (show ∃ T q F, Ending.returned (Value.iface 130 (ptrV p)) = .returned (.iface T (ptrV q)) /\ Below w.heap.size w w2 /\ EngF w2 (.iface T (ptrV q)) [] F /\ kindE (.iface T (ptrV q)) = 3 /\ ∀ x ∈ F, w.heap.size <= x from ⟨_, _, F, rfl, hB, .mkR List.Pairwise.nil (by simp) h1, rfl, h2⟩)
  clear h1 h2 hB
  go_wp2
  go_ret
  exact fin.out
set_option maxHeartbeats 400000 in
theorem newEng_none (k : Int) (h : ¬ (1 <= k /\ k <= 3)) (w : World) : Calls Tryz.prog 56 #[.int .i64 k] w fun r w' => r = .returned .nilIface /\ w' = w := by
 have q1 : (k == 1) = false := by simp; omega
 have q2 : (k == 2) = false := by simp; omega
 have q3 : (k == 3) = false := by simp; omega
 go_enter Tryz.func56, Tryz.ntmps56
 go_wp2
 go_ret
 exact ⟨rfl, rfl⟩
set_option maxHeartbeats 400000 in
theorem setBudget_any (w : World) (t : Nat) (e : Value) (s : TS) (pm : Value) (F H : List Nat) (n : Int) (h : Tab3 w t e s pm F H) :
  Calls Tryz.prog 39 #[ptrV t, .int .i64 n] w fun r w' => (¬ (1 <= n /\ n <= 400) /\ r = .returned (.int .i64 11) /\ w' = w) ∨ (1 <= n /\ n <= 400 /\ r = .returned (.int .i64 0) /\ Tab3 w' t e { s with b := n } pm F H /\ Only [t] w w') := by
 by_cases hn : 1 <= n /\ n <= 400
 ·have t1 : w.cell? ⟨t, 1, none⟩ = some (.int .i64 s.b) := by simp [World.cell?, h.blk]
  have tf : w.frozen? ⟨t, 1, none⟩ = false := by simp [World.frozen?, h.blk]
  have fin := hide (show Tab3 (w.setCell ⟨t, 1, none⟩ (.int .i64 n)) t e { s with b := n } pm F H /\ Only [t] w (w.setCell ⟨t, 1, none⟩ (.int .i64 n)) from by
   obtain ⟨a1, a2, a3⟩ := setT h.blk 1 (.int .i64 n)
   exact ⟨⟨a1, h.eng.kept fun k hk => a2 k (fun e => h.nt (e ▸ hk)), h.kind, h.mv.kept fun k hk => a2 k (fun e => h.nh (e ▸ hk)), h.nt, h.nh, h.dj⟩, ⟨rfl, rfl, rfl, by omega, fun k _ hn => a2 k (by simpa using hn)⟩⟩)
  have hb := hide (isBudget_yes n w hn)
  clear h
  go_enter Tryz.func39, Tryz.ntmps39
  go_wp2_with fail
  refine hb.out.mono ?_
  rintro _ w ⟨rfl, rfl⟩
  go_wp2
  go_ret
  exact .inr ⟨hn.1, hn.2, rfl, fin.out⟩
 ·have hb := hide (isBudget_no n w hn)
  clear h
  go_enter Tryz.func39, Tryz.ntmps39
  go_wp2_with fail
  refine hb.out.mono ?_
  rintro _ w ⟨rfl, rfl⟩
  go_wp2
  go_ret
  exact .inl ⟨hn, rfl, rfl⟩
set_option maxHeartbeats 400000 in
theorem new_yes (w : World) (cf : Cfg) (h : isCfg cf) : Calls Tryz.prog 31 #[cfgV cf] w fun r w' => ∃ t e F, r = .returned (.tuple #[ptrV t, .int .i64 0]) /\ Below w.heap.size w w' /\ Tab3 w' t e ⟨[], cf.e, cf.b, cf.c, cf.l, none, 0, 0⟩ (.pointer none) F [] /\ w.heap.size <= t /\ (∀ k ∈ F, w.heap.size <= k) := by
 have hB := hide (show Below w.heap.size w (w.alloc (.cells #[.int .i64 cf.e, .int .i64 cf.b, .int .i64 cf.c, .int .i64 cf.l] 23)) from (Below.refl _ w).alloc (Nat.le_refl _) _)
 have hc := hide (isConfig_yes cf (w.alloc (.cells #[.int .i64 cf.e, .int .i64 cf.b, .int .i64 cf.c, .int .i64 cf.l] 23)) h)
 obtain ⟨d1, d2, _⟩ := h
 obtain ⟨k, b, ch, lg⟩ := cf
 simp only at d1 d2
 have hne := hide (fun W => newEng_any k d1 d2 W)
 go_enter Tryz.func31, Tryz.ntmps31
 go_wp2_with fail
 refine hc.out.mono ?_
 rintro _ w2 ⟨rfl, hb2⟩
 have c0 : w2.cell? ⟨w.heap.size, 0, none⟩ = some (.int .i64 k) := (hb2.cell (p := ⟨w.heap.size, 0, none⟩) (by simp)).trans (by simp)
 have c1 : w2.cell? ⟨w.heap.size, 1, none⟩ = some (.int .i64 b) := (hb2.cell (p := ⟨w.heap.size, 1, none⟩) (by simp)).trans (by simp)
 have c2 : w2.cell? ⟨w.heap.size, 2, none⟩ = some (.int .i64 ch) := (hb2.cell (p := ⟨w.heap.size, 2, none⟩) (by simp)).trans (by simp)
 have c3 : w2.cell? ⟨w.heap.size, 3, none⟩ = some (.int .i64 lg) := (hb2.cell (p := ⟨w.heap.size, 3, none⟩) (by simp)).trans (by simp)
 have hsz : w.heap.size < w2.heap.size := by have := hb2.size; simp at this; omega
 have HB2 := hide (hB.out.trans (hb2.mono hB.out.size))
 clear hb2 hc
 go_wp2
 go_region_held3 (fun w' => w'.cell? ⟨w.heap.size, 0, none⟩ = some (.int .i64 k) /\ w'.cell? ⟨w.heap.size, 1, none⟩ = some (.int .i64 b) /\ w'.cell? ⟨w.heap.size, 2, none⟩ = some (.int .i64 ch) /\ w'.cell? ⟨w.heap.size, 3, none⟩ = some (.int .i64 lg)) (go_keep)
  ((go_at_call 56; refine (hne.out _).mono ?_; rintro _ w3 ⟨T, q, F, rfl, hb3, hE, hke, hF⟩; (have k0 : ∀ o, w3.cell? ⟨w.heap.size, o, none⟩ = w2.cell? ⟨w.heap.size, o, none⟩ := fun o => hb3.cell (p := ⟨w.heap.size, o, none⟩) (by simpa using hsz)); (have hsz3 : w.heap.size < w3.heap.size := by have := hb3.size; simp at this; omega)))
 have hb3' : Below w2.heap.size w2 w3 := (Below.refl _ w2).drew.trans hb3
 have fin := hide (show Below w.heap.size w (w3.alloc (.cells #[.iface T (ptrV q), .int .i64 b, .int .i64 ch, .int .i64 lg, .pointer none, .int .i64 0, .int .i64 0] 98)) /\ Tab3 (w3.alloc (.cells #[.iface T (ptrV q), .int .i64 b, .int .i64 ch, .int .i64 lg, .pointer none, .int .i64 0, .int .i64 0] 98)) w3.heap.size (.iface T (ptrV q)) ⟨[], k, b, ch, lg, none, 0, 0⟩ (.pointer none) F [] /\ w.heap.size <= w3.heap.size /\ (∀ k ∈ F, w.heap.size <= k) from by
  have hBl : Below w3.heap.size w3 (w3.alloc (.cells #[.iface T (ptrV q), .int .i64 b, .int .i64 ch, .int .i64 lg, .pointer none, .int .i64 0, .int .i64 0] 98)) := (Below.refl _ w3).alloc (Nat.le_refl _) _
  have hB3 := HB2.out.trans (hb3'.mono HB2.out.size)
  exact ⟨hB3.trans (hBl.mono hB3.size), ⟨World.alloc_heap_new w3 _, hE.later hBl, hke, ⟨rfl, rfl⟩, fun hk => by have := hE.lt _ hk; omega, by simp, fun k _ hk => by cases hk⟩, by omega, fun k hk => by have := hF k hk; simp at this; omega⟩)
 clear hE hF hb3 hb3' k0 hke hne
 go_wp2
 go_ret2
 exact ⟨_, _, _, rfl, fin.out⟩
end Go.Proofs.YtglbamalagacgaaGreat

import Derived.Test.YtkihifodifkieaaRStr
namespace Go.Proofs.Ytkihifodifkieaa
open Go.RowKit

set_option maxHeartbeats 400000 in
theorem behind_any (a l : Int) (h0 : 0 ≤ l) (h8 : l ≤ 8) (ha : 0 ≤ a) (ha' : a < 256) (w : World) :
    Calls Try.prog 48 #[pfxV a l] w fun e w' => e = .returned (.int .i64 (a + wid l)) ∧ Below w.heap.size w w' := by
  have hw0 := (wid_bd l).1
  have hw1 := (wid_bd l).2
  go_enter Try.func48, Try.ntmps48
  go_wp2
  go_quiet ((go_at_call 42; exact Calls.quiet_of_same (size_any l h0 h8 _)))
  go_wp2
  go_ret
  exact ⟨rfl, (by repeat (first | exact Below.refl _ _ | refine below_drewN ?_ _ | refine Below.drew ?_ | refine Below.trans ?_ (Below.mono (by assumption) (by first | omega | (simp; omega) | simp)) | refine Below.alloc ?_ (by first | omega | (simp; omega) | simp) _ | refine Below.setCell ?_ (by first | omega | (simp; omega) | simp) _))⟩

def sideI (a l : Int) : Int := a / wid (l + 1) % 2
theorem sideI_bd (a l : Int) : sideI a l = 0 ∨ sideI a l = 1 := by unfold sideI; omega

set_option maxHeartbeats 400000 in
theorem side_any (a l : Int) (h0 : 0 ≤ l) (h8 : l < 8) (ha : 0 ≤ a) (ha' : a < 256) (w : World) :
    Calls Try.prog 108 #[.int .i64 a, .int .i64 l] w fun e w' => e = .returned (.int .i64 (sideI a l)) ∧ w' = w := by
  have hw0 := (wid_bd (l + 1)).1
  have hw1 := (wid_bd (l + 1)).2
  have hwn : ¬ wid (l + 1) = 0 := by omega
  have hd0 : 0 ≤ a / wid (l + 1) := Int.ediv_nonneg ha (by omega)
  have hd1 : a / wid (l + 1) ≤ a := Int.ediv_le_self _ ha
  go_enter Try.func108, Try.ntmps108
  go_wp2_with (go_at_call 42; refine (size_any (l + 1) (by omega) (by omega) _).mono ?_; rintro e w' ⟨rfl, rfl⟩)
  go_ret
  exact ⟨rfl, rfl⟩

-- the prefix of that length that covers an address
def cov (a l : Int) : Int := a - a % wid l
-- the best of the routes, of lengths below n, for an address
def bestN (xs : List Ent) (a : Int) : Nat → Option Ent
  | 0 => none
  | n + 1 => match getE xs (cov a n) n with
    | some k => some ⟨cov a n, n, k⟩
    | none => bestN xs a n
def bestE (xs : List Ent) (a : Int) : Option Ent := bestN xs a 9

theorem cov_bd (a l : Int) (ha : 0 ≤ a) : 0 ≤ cov a l ∧ cov a l ≤ a := by
  have hw0 := (wid_bd l).1
  have hm := Int.emod_nonneg a (show wid l ≠ 0 by omega)
  unfold cov
  have := Int.mul_ediv_add_emod a (wid l)
  have hq : 0 ≤ wid l * (a / wid l) := Int.mul_nonneg (by omega) (Int.ediv_nonneg ha (by omega))
  omega

set_option maxHeartbeats 400000 in
theorem lstBest_any (lp : Nat) (xs : List Ent) (F : List Nat) (a : Int) (w : World) (hL : ListF w lp xs F) (ha : 0 ≤ a) (ha' : a < 256) :
    Calls Try.prog 49 #[ptrV lp, .int .i64 a] w fun r w' => Below w.heap.size w w' ∧ r = .returned (.tuple #[R.rteO (bestE xs a), .bool (bestE xs a).isSome]) := by
  have HL := hide hL
  have llp := hL.c0
  obtain ⟨st, Fs, c0, hlt, hSt, hnF, rfl⟩ := llp
  have HS := hide hSt
  clear hL hSt hnF
  go_enter Try.func49, Try.ntmps49
  go_wp2
  go_loopw [6] (fun sl wr => ∃ n : Nat, n ≤ 9 ∧ sl = .int .i64 ((n : Int) - 1) ∧ Hid (bestE xs a = bestN xs a n) ∧ Below (w.heap.size + 1) (w.alloc R.zR) wr) (fun s _ => (intOf s + 1).toNat)
  case atStart => exact ⟨9, by omega, rfl, rfl, Below.refl _ _⟩
  case round =>
    obtain ⟨n, hn, rfl, hbe, hB⟩ := hrel
    have hBw : Below w.heap.size w wr := ((Below.refl _ w).alloc (Nat.le_refl _) _).trans (hB.mono (by omega))
    have hwl : w.heap.size < wr.heap.size := by have := hB.size; simp at this; omega
    have r0 : wr.cell? ⟨w.heap.size, 0, none⟩ = some (.int .i64 0) := (hB.cell (p := ⟨w.heap.size, 0, none⟩) (by simp)).trans (by simp [go_sem])
    have r1 : wr.cell? ⟨w.heap.size, 1, none⟩ = some (.int .i64 0) := (hB.cell (p := ⟨w.heap.size, 1, none⟩) (by simp)).trans (by simp [go_sem])
    have r2 : wr.cell? ⟨w.heap.size, 2, none⟩ = some (.int .i64 0) := (hB.cell (p := ⟨w.heap.size, 2, none⟩) (by simp)).trans (by simp [go_sem])
    have rf : ∀ o, wr.frozen? ⟨w.heap.size, o, none⟩ = false := fun o => (hB.frozen (p := ⟨w.heap.size, o, none⟩) (by simp)).trans (by simp [go_sem])
    cases n with
    | zero =>
      have hbe' : bestE xs a = none := hbe.out
      have HG := hide hbe'
      clear hbe' hbe c0
      have h0 : decide ((0 : Int) ≤ ((0 : Nat) : Int) - 1) = false := by simp
      go_wp2
      exact bodyPost_ret (v := .tuple #[rteV 0 0 0, .bool false]) (by simp [results, Try.results49, go_sem, *]) rfl ⟨(by repeat (first | exact Below.refl _ _ | refine below_drewN ?_ _ | refine Below.drew ?_ | refine Below.trans ?_ (Below.mono (by assumption) (by first | omega | (simp; omega) | simp)) | refine Below.alloc ?_ (by first | omega | (simp; omega) | simp) _ | refine Below.setCell ?_ (by first | omega | (simp; omega) | simp) _)), by rw [HG.out]; rfl⟩
    | succ n =>
      have hn8 : (n : Int) ≤ 8 := by omega
      have hn0 : (0 : Int) ≤ (n : Int) := by omega
      have e1 : (((n + 1 : Nat) : Int) - 1) = (n : Int) := by omega
      rw [e1]
      have HB := hide (show bestE xs a = (match getE xs (cov a n) n with | some k => some ⟨cov a n, n, k⟩ | none => bestN xs a n) from hbe.out)
      clear hbe e1
      have c0w : wr.cell? ⟨lp, 0, none⟩ = some (ptrV st) := (hBw.cell (p := ⟨lp, 0, none⟩) hlt).trans c0
      have hcov := hide (covering_any a n hn0 hn8 ha ha' wr)
      have hS2 : StoreF wr st xs Fs := HS.out.later hBw
      go_wp2_with fail
      refine hcov.out.mono ?_
      rintro _ w2 ⟨rfl, hB2⟩
      have c02 : w2.cell? ⟨lp, 0, none⟩ = some (ptrV st) := (hB2.cell (p := ⟨lp, 0, none⟩) (by simp; omega)).trans c0w
      have hl2 : lp < w2.heap.size := by have := hB2.size; omega
      have hl3 : lp < w2.heap.size + 1 := by omega
      have q0 : w2.cell? ⟨w.heap.size, 0, none⟩ = some (.int .i64 0) := (hB2.cell (p := ⟨w.heap.size, 0, none⟩) hwl).trans r0
      have q1 : w2.cell? ⟨w.heap.size, 1, none⟩ = some (.int .i64 0) := (hB2.cell (p := ⟨w.heap.size, 1, none⟩) hwl).trans r1
      have q2 : w2.cell? ⟨w.heap.size, 2, none⟩ = some (.int .i64 0) := (hB2.cell (p := ⟨w.heap.size, 2, none⟩) hwl).trans r2
      have qf : ∀ o, w2.frozen? ⟨w.heap.size, o, none⟩ = false := fun o => (hB2.frozen (p := ⟨w.heap.size, o, none⟩) hwl).trans (rf o)
      have hwl2 : w.heap.size < w2.heap.size := by have := hB2.size; omega
      have hB3 : Below (w.heap.size + 1) (w.alloc R.zR) w2 := hB.trans (hB2.mono (by omega))
      have hcv : a - a % wid n = cov a n := rfl
      rw [hcv]
      have Hget := hide (fun (W : World) (hW : Below wr.heap.size wr W) => get_F st xs Fs (cov a n) n W (hS2.later hW))
      have hB4 : Below wr.heap.size wr (w2.alloc (.cells #[.int .i64 (cov a n), .int .i64 n] 54)).drew := (hB2.alloc hB2.size _).drew
      clear hcov r0 r1 r2 rf c0w hS2 hcv
      generalize hc : cov a n = c at *
      cases hg : getE xs c n with
      | some k =>
        rw [hg] at HB Hget
        have HC := hide hc
        clear hg hc
        have HBR := hide HB.out
        go_wp2
        go_region_held3 (fun w' => w'.cell? ⟨lp, 0, none⟩ = some (ptrV st) ∧ w'.cell? ⟨w2.heap.size, 0, none⟩ = some (.int .i64 c) ∧ w'.cell? ⟨w2.heap.size, 1, none⟩ = some (.int .i64 n)) (go_keep)
          (first
            | (go_at_call 56; refine (Hget.out _ hB4).mono ?_; rintro _ w3 ⟨hb, rfl⟩; have hc3 := (bcell hb).1))
        have hz3 : w2.heap.size < w3.heap.size := by have := hb.size; simp at this; omega
        have k0 : w3.cell? ⟨w2.heap.size, 0, none⟩ = some (.int .i64 c) := (hc3 _ _ (by simp)).trans (by simp [go_sem])
        have k1 : w3.cell? ⟨w2.heap.size, 1, none⟩ = some (.int .i64 n) := (hc3 _ _ (by simp)).trans (by simp [go_sem])
        have hB5 : Below w2.heap.size w2 w3 := ((Below.refl _ w2).alloc (Nat.le_refl _) _).drew.trans (hb.mono (by simp))
        clear hc3 hb hB4 Hget c02
        have hro := hide (route_any c n k w3)
        simp only [orZ, isS]
        go_wp2_with fail
        refine hro.out.mono ?_
        rintro _ w4 ⟨rfl, hB6⟩
        have hB7 : Below w2.heap.size w2 w4 := hB5.trans (hB6.mono hB5.size)
        have s0 : w4.cell? ⟨w.heap.size, 0, none⟩ = some (.int .i64 0) := (hB7.cell (p := ⟨w.heap.size, 0, none⟩) hwl2).trans q0
        have s1 : w4.cell? ⟨w.heap.size, 1, none⟩ = some (.int .i64 0) := (hB7.cell (p := ⟨w.heap.size, 1, none⟩) hwl2).trans q1
        have s2 : w4.cell? ⟨w.heap.size, 2, none⟩ = some (.int .i64 0) := (hB7.cell (p := ⟨w.heap.size, 2, none⟩) hwl2).trans q2
        have sf : ∀ o, w4.frozen? ⟨w.heap.size, o, none⟩ = false := fun o => (hB7.frozen (p := ⟨w.heap.size, o, none⟩) hwl2).trans (qf o)
        have fin : Below w.heap.size w w4 := hBw.trans ((hB2.trans (hB7.mono hB2.size)).mono (by omega))
        clear hB3 hB5 hB6 hB7 q0 q1 q2 qf k0 k1 hro hB hB2 hBw
        go_wp2
        exact bodyPost_ret (v := .tuple #[rteV c n k, .bool true]) (by simp [results, Try.results49, go_sem, *]) rfl ⟨(by repeat (first | exact Below.refl _ _ | refine below_drewN ?_ _ | refine Below.drew ?_ | refine Below.trans ?_ (Below.mono (by assumption) (by first | omega | (simp; omega) | simp)) | refine Below.alloc ?_ (by first | omega | (simp; omega) | simp) _ | refine Below.setCell ?_ (by first | omega | (simp; omega) | simp) _)), by rw [HBR.out, ← HC.out]; rfl⟩
      | none =>
        rw [hg] at HB Hget
        clear hg hc
        have HBR := hide HB.out
        have hw1 : IntKind.i64.wrap ((n : Int) - 1) = (n : Int) - 1 := by rw [IntKind.wrap_i64]; omega
        go_wp2
        go_region_held3 (fun w' => w'.cell? ⟨lp, 0, none⟩ = some (ptrV st) ∧ w'.cell? ⟨w2.heap.size, 0, none⟩ = some (.int .i64 c) ∧ w'.cell? ⟨w2.heap.size, 1, none⟩ = some (.int .i64 n)) (go_keep)
          (first
            | (go_at_call 56; refine (Hget.out _ hB4).mono ?_; rintro _ w3 ⟨hb, rfl⟩; have hc3 := (bcell hb).1))
        have hB5 : Below w2.heap.size w2 w3 := ((Below.refl _ w2).alloc (Nat.le_refl _) _).drew.trans (hb.mono (by simp))
        have fin := hide (hB3.trans (hB5.mono (by omega)))
        clear hc3 hb hB4 Hget c02 hB5 hB3 q0 q1 q2 qf
        simp only [orZ, isS]
        go_wp2
        go_roundw
        case rel => exact ⟨n, by omega, rfl, HBR, fin.out⟩
        case measure => simp [intOf]

end Go.Proofs.Ytkihifodifkieaa

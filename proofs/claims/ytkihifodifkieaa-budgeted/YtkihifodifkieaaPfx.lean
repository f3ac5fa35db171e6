import Derived.Test.YtkihifodifkieaaProg
import Derived.WalkKit
import Derived.WalkSpells
import Derived.WalkLawsBesides
import Derived.Deep.QuietTactic
import Derived.BigQuiet
import Derived.Deep.RegionHeld3
namespace Go.Proofs.Ytkihifodifkieaa
open Go.RowKit

def cmpI (a b : Int) : Int := if a < b then -1 else if b < a then 1 else 0
def orI (x y : Int) : Int := if x = 0 then y else x
def cmpP (a l b m : Int) : Int := orI (cmpI a b) (cmpI l m)
def wid (l : Int) : Int := if l = 0 then 256 else if l = 1 then 128 else if l = 2 then 64 else if l = 3 then 32 else if l = 4 then 16 else if l = 5 then 8 else if l = 6 then 4 else if l = 7 then 2 else 1
def isPfx (a l : Int) : Bool := decide (0 ≤ l) && decide (l ≤ 8) && (decide (0 ≤ a) && decide (a < 256)) && decide (a % wid l = 0)

theorem cmpI_lt {a b : Int} (h : a < b) : cmpI a b = -1 := by simp [cmpI, h]
theorem cmpI_gt {a b : Int} (h : b < a) : cmpI a b = 1 := by unfold cmpI; rw [if_neg (by omega), if_pos h]
theorem cmpI_eq {a b : Int} (h : a = b) : cmpI a b = 0 := by unfold cmpI; rw [if_neg (by omega), if_neg (by omega)]

theorem wid_bd (l : Int) : 0 < wid l ∧ wid l ≤ 256 := by unfold wid; (repeat' split) <;> omega

theorem ret_bool {a b : Bool} (h : a = b) : Ending.returned (.bool a) = .returned (.bool b) := by rw [h]
theorem ret_int {k : IntKind} {a b : Int} (h : a = b) : Ending.returned (.int k a) = .returned (.int k b) := by rw [h]

set_option maxHeartbeats 400000 in
theorem isAddress_any (a : Int) (w : World) :
    Calls Try.prog 41 #[.int .i64 a] w fun e w' => e = .returned (.bool (decide (0 ≤ a) && decide (a < 256))) ∧ w' = w := by
  by_cases h : 0 ≤ a
  · go_enter Try.func41, Try.ntmps41
    go_wp2
    go_ret
    exact ⟨by simp [h], rfl⟩
  · go_enter Try.func41, Try.ntmps41
    go_wp2
    go_ret
    exact ⟨by simp; omega, rfl⟩

theorem isAddress_no (a : Int) (h : (decide (0 ≤ a) && decide (a < 256)) = false) (w : World) :
    Calls Try.prog 41 #[.int .i64 a] w fun e w' => e = .returned (.bool false) ∧ w' = w := by
  have := isAddress_any a w
  rwa [h] at this

set_option maxHeartbeats 400000 in
theorem isNaN_any (a : Int) (w : World) :
    Calls Try.prog 47 #[.int .i64 a] w fun e w' => e = .returned (.bool false) ∧ w' = w := by
  go_enter Try.func47, Try.ntmps47
  go_wp2
  go_ret
  exact ⟨rfl, rfl⟩

set_option maxHeartbeats 400000 in
theorem cmpInt_any (a b : Int) (w : World) :
    Calls Try.prog 38 #[.int .i64 a, .int .i64 b] w fun e w' => e = .returned (.int .i64 (cmpI a b)) ∧ w' = w := by
  rcases Int.lt_trichotomy a b with h | h | h
  · rw [cmpI_lt h]
    go_enter Try.func38, Try.ntmps38
    go_wp2
    go_ret
    exact ⟨rfl, rfl⟩
  · rw [cmpI_eq h]
    subst h
    go_enter Try.func38, Try.ntmps38
    go_wp2
    go_ret
    exact ⟨rfl, rfl⟩
  · rw [cmpI_gt h]
    have h' : ¬ a < b := by omega
    go_enter Try.func38, Try.ntmps38
    go_wp2
    go_ret
    exact ⟨rfl, rfl⟩

set_option maxHeartbeats 400000 in
theorem size_any (l : Int) (h0 : 0 ≤ l) (h8 : l ≤ 8) (w : World) :
    Calls Try.prog 42 #[.int .i64 l] w fun e w' => e = .returned (.int .i64 (wid l)) ∧ w' = w := by
  have h : l = 0 ∨ l = 1 ∨ l = 2 ∨ l = 3 ∨ l = 4 ∨ l = 5 ∨ l = 6 ∨ l = 7 ∨ l = 8 := by omega
  rcases h with rfl | rfl | rfl | rfl | rfl | rfl | rfl | rfl | rfl
  all_goals
    go_enter Try.func42, Try.ntmps42
    go_wp2
    go_ret
    exact ⟨rfl, rfl⟩

-- cmp.Or of two ints that lie in a block.
set_option maxHeartbeats 400000 in
theorem or_two (b : Nat) (x y : Int) (w : World) (hx : w.cell? ⟨b, 0, none⟩ = some (.int .i64 x)) (hy : w.cell? ⟨b, 1, none⟩ = some (.int .i64 y)) :
    Calls Try.prog 46 #[.slice (some ⟨b, 0, none⟩) 2 2] w fun e w' => e = .returned (.int .i64 (orI x y)) ∧ w' = w := by
  by_cases h : x = 0
  · have h' : (x != 0) = false := by simp [h]
    by_cases h2 : y = 0
    · have h2' : (y != 0) = false := by simp [h2]
      have H : orI x y = 0 := by simp [orI, h, h2]
      rw [H]
      clear h h2 H
      go_enter Try.func46, Try.ntmps46
      go_wp2
      refine wp_loop_rounds 3 ?_
      rw [rounds_succ]
      go_wp2
      rw [rounds_succ]
      go_wp2
      rw [rounds_succ]
      go_wp2
      go_ret
      exact ⟨rfl, rfl⟩
    · have h2' : (y != 0) = true := by simp [h2]
      have H : orI x y = y := by simp [orI, h]
      rw [H]
      clear h h2 H
      go_enter Try.func46, Try.ntmps46
      go_wp2
      refine wp_loop_rounds 3 ?_
      rw [rounds_succ]
      go_wp2
      rw [rounds_succ]
      go_wp2
      go_ret
      exact ⟨rfl, rfl⟩
  · have h' : (x != 0) = true := by simp [h]
    have H : orI x y = x := by simp [orI, h]
    rw [H]
    clear h H
    go_enter Try.func46, Try.ntmps46
    go_wp2
    refine wp_loop_rounds 3 ?_
    rw [rounds_succ]
    go_wp2
    go_ret
    exact ⟨rfl, rfl⟩

-- Nothing that lay in memory has turned.
theorem bcell {W w1 : World} (hb : Below W.heap.size W w1) : (∀ b o, b < W.heap.size → w1.cell? ⟨b, o, none⟩ = W.cell? ⟨b, o, none⟩) ∧ (∀ b o, b < W.heap.size → w1.frozen? ⟨b, o, none⟩ = W.frozen? ⟨b, o, none⟩) :=
  ⟨fun b o h => hb.cell (p := ⟨b, o, none⟩) h, fun b o h => hb.frozen (p := ⟨b, o, none⟩) h⟩

set_option maxHeartbeats 400000 in
theorem compare_any (a l b m : Int) (w : World) :
    Calls Try.prog 36 #[.agg #[.int .i64 a, .int .i64 l], .agg #[.int .i64 b, .int .i64 m]] w fun e w' => e = .returned (.int .i64 (cmpP a l b m)) ∧ Below w.heap.size w w' := by
  go_enter Try.func36, Try.ntmps36
  go_wp2
  go_region_held3 (fun w' => w'.cell? ⟨w.heap.size, 0, none⟩ = some (.int .i64 a) ∧ w'.cell? ⟨w.heap.size, 1, none⟩ = some (.int .i64 l) ∧ w'.cell? ⟨w.heap.size + 1, 0, none⟩ = some (.int .i64 b) ∧ w'.cell? ⟨w.heap.size + 1, 1, none⟩ = some (.int .i64 m)) (go_keep)
    (first
      | (go_at_call 38; refine (cmpInt_any _ _ _).mono ?_; rintro e w' ⟨rfl, rfl⟩)
      | (go_at_call 46; refine (or_two (w.heap.size + 2) (cmpI a b) (cmpI l m) _ ?hx ?hy).mono ?_; (case hx => simp [go_sem]); (case hy => simp [go_sem]); rintro e w' ⟨rfl, rfl⟩))
  go_wp2
  go_ret
  exact ⟨rfl, (by repeat (first | exact Below.refl _ _ | refine below_drewN ?_ _ | refine Below.drew ?_ | refine Below.trans ?_ (Below.mono (by assumption) (by first | omega | (simp; omega) | simp)) | refine Below.alloc ?_ (by first | omega | (simp; omega) | simp) _ | refine Below.setCell ?_ (by first | omega | (simp; omega) | simp) _))⟩

set_option maxHeartbeats 400000 in
theorem valid_any (a l : Int) (w : World) :
    Calls Try.prog 28 #[.agg #[.int .i64 a, .int .i64 l]] w fun e w' => e = .returned (.bool (isPfx a l)) ∧ Below w.heap.size w w' := by
  by_cases h0 : 0 ≤ l
  · by_cases h8 : l ≤ 8
    · by_cases ha : 0 ≤ a ∧ a < 256
      · have hp : isPfx a l = decide (a % wid l = 0) := by simp [isPfx, h0, h8, ha]
        rw [hp]
        have hA : (decide (0 ≤ a) && decide (a < 256)) = true := by simp [ha]
        have hw0 := (wid_bd l).1
        have hw1 := (wid_bd l).2
        have hwn : ¬ wid l = 0 := by omega
        obtain ⟨ha0, ha1⟩ := ha
        go_enter Try.func28, Try.ntmps28
        go_wp2
        go_region_held3 (fun w' => w'.cell? ⟨w.heap.size, 0, none⟩ = some (.int .i64 a) ∧ w'.cell? ⟨w.heap.size, 1, none⟩ = some (.int .i64 l)) (go_keep)
          (first
            | (go_at_call 41; refine (isAddress_any _ _).mono ?_; rw [hA]; rintro e w' ⟨rfl, rfl⟩)
            | (go_at_call 42; refine (size_any l h0 h8 _).mono ?_; rintro e w' ⟨rfl, rfl⟩))
        go_wp2
        go_ret
        exact ⟨ret_bool (by rw [Bool.eq_iff_iff]; simp [Int.tmod_eq_emod_of_nonneg ha0]), (by repeat (first | exact Below.refl _ _ | refine below_drewN ?_ _ | refine Below.drew ?_ | refine Below.trans ?_ (Below.mono (by assumption) (by first | omega | (simp; omega) | simp)) | refine Below.alloc ?_ (by first | omega | (simp; omega) | simp) _ | refine Below.setCell ?_ (by first | omega | (simp; omega) | simp) _))⟩
      · have hA : (decide (0 ≤ a) && decide (a < 256)) = false := by simp; omega
        have hp : isPfx a l = false := by simp only [isPfx, hA]; simp
        rw [hp]
        clear ha hp
        go_enter Try.func28, Try.ntmps28
        go_wp2
        go_quiet ((go_at_call 41; exact Calls.quiet_of_same (isAddress_no a hA _)))
        go_wp2
        go_ret
        exact ⟨rfl, (by repeat (first | exact Below.refl _ _ | refine below_drewN ?_ _ | refine Below.drew ?_ | refine Below.trans ?_ (Below.mono (by assumption) (by first | omega | (simp; omega) | simp)) | refine Below.alloc ?_ (by first | omega | (simp; omega) | simp) _ | refine Below.setCell ?_ (by first | omega | (simp; omega) | simp) _))⟩
    · have hp : isPfx a l = false := by simp [isPfx, h8]
      have hd : decide (l ≤ 8) = false := by simpa using h8
      rw [hp]
      clear hp
      go_enter Try.func28, Try.ntmps28
      go_wp2
      go_quiet (fail)
      go_wp2
      go_ret
      exact ⟨rfl, (by repeat (first | exact Below.refl _ _ | refine below_drewN ?_ _ | refine Below.drew ?_ | refine Below.trans ?_ (Below.mono (by assumption) (by first | omega | (simp; omega) | simp)) | refine Below.alloc ?_ (by first | omega | (simp; omega) | simp) _ | refine Below.setCell ?_ (by first | omega | (simp; omega) | simp) _))⟩
  · have hp : isPfx a l = false := by simp [isPfx, h0]
    have hd : decide (0 ≤ l) = false := by simpa using h0
    rw [hp]
    clear hp
    go_enter Try.func28, Try.ntmps28
    go_wp2
    go_quiet (fail)
    go_wp2
    go_ret
    exact ⟨rfl, (by repeat (first | exact Below.refl _ _ | refine below_drewN ?_ _ | refine Below.drew ?_ | refine Below.trans ?_ (Below.mono (by assumption) (by first | omega | (simp; omega) | simp)) | refine Below.alloc ?_ (by first | omega | (simp; omega) | simp) _ | refine Below.setCell ?_ (by first | omega | (simp; omega) | simp) _))⟩

abbrev pfxV (a l : Int) : Value := .agg #[.int .i64 a, .int .i64 l]
abbrev rteV (a l n : Int) : Value := .agg #[.int .i64 a, .int .i64 l, .int .i64 n]

set_option maxHeartbeats 400000 in
theorem first_any (w : World) :
    Calls Try.prog 40 #[] w fun e w' => e = .returned (pfxV 0 0) ∧ Below w.heap.size w w' := by
  go_enter Try.func40, Try.ntmps40
  go_wp2
  exact bodyPost_ret (v := pfxV 0 0) (by simp [results, Try.results40, go_sem]) rfl ⟨rfl, (by repeat (first | exact Below.refl _ _ | refine below_drewN ?_ _ | refine Below.drew ?_ | refine Below.trans ?_ (Below.mono (by assumption) (by first | omega | (simp; omega) | simp)) | refine Below.alloc ?_ (by first | omega | (simp; omega) | simp) _ | refine Below.setCell ?_ (by first | omega | (simp; omega) | simp) _))⟩

set_option maxHeartbeats 400000 in
theorem of_any (a l n : Int) (w : World) :
    Calls Try.prog 93 #[rteV a l n] w fun e w' => e = .returned (pfxV a l) ∧ Below w.heap.size w w' := by
  go_enter Try.func93, Try.ntmps93
  go_wp2
  exact bodyPost_ret (v := pfxV a l) (by simp [results, Try.results93, go_sem]) rfl ⟨rfl, (by repeat (first | exact Below.refl _ _ | refine below_drewN ?_ _ | refine Below.drew ?_ | refine Below.trans ?_ (Below.mono (by assumption) (by first | omega | (simp; omega) | simp)) | refine Below.alloc ?_ (by first | omega | (simp; omega) | simp) _ | refine Below.setCell ?_ (by first | omega | (simp; omega) | simp) _))⟩

set_option maxHeartbeats 400000 in
theorem route_any (a l n : Int) (w : World) :
    Calls Try.prog 53 #[pfxV a l, .int .i64 n] w fun e w' => e = .returned (rteV a l n) ∧ Below w.heap.size w w' := by
  go_enter Try.func53, Try.ntmps53
  go_wp2
  exact bodyPost_ret (v := rteV a l n) (by simp [results, Try.results53, go_sem]) rfl ⟨rfl, (by repeat (first | exact Below.refl _ _ | refine below_drewN ?_ _ | refine Below.drew ?_ | refine Below.trans ?_ (Below.mono (by assumption) (by first | omega | (simp; omega) | simp)) | refine Below.alloc ?_ (by first | omega | (simp; omega) | simp) _ | refine Below.setCell ?_ (by first | omega | (simp; omega) | simp) _))⟩

set_option maxHeartbeats 400000 in
theorem covering_any (a l : Int) (h0 : 0 ≤ l) (h8 : l ≤ 8) (ha : 0 ≤ a) (ha' : a < 256) (w : World) :
    Calls Try.prog 55 #[.int .i64 a, .int .i64 l] w fun e w' => e = .returned (pfxV (a - a % wid l) l) ∧ Below w.heap.size w w' := by
  have hw0 := (wid_bd l).1
  have hw1 := (wid_bd l).2
  have hwn : ¬ wid l = 0 := by omega
  have hm := Int.emod_nonneg a hwn
  have hm' := Int.emod_lt_of_pos a hw0
  go_enter Try.func55, Try.ntmps55
  go_wp2_with (go_at_call 42; refine (size_any l h0 h8 _).mono ?_; rintro e w' ⟨rfl, rfl⟩)
  exact bodyPost_ret (v := pfxV (a - a % wid l) l) (by simp [results, Try.results55, go_sem]) rfl ⟨rfl, (by repeat (first | exact Below.refl _ _ | refine below_drewN ?_ _ | refine Below.drew ?_ | refine Below.trans ?_ (Below.mono (by assumption) (by first | omega | (simp; omega) | simp)) | refine Below.alloc ?_ (by first | omega | (simp; omega) | simp) _ | refine Below.setCell ?_ (by first | omega | (simp; omega) | simp) _))⟩

end Go.Proofs.Ytkihifodifkieaa

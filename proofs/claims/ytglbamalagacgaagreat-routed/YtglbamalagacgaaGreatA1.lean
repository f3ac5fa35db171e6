import Derived.Test.YtglbamalagacgaaGreatProg
import Derived.WalkKit
import Derived.WalkSpells
import Derived.WalkLawsBesides
import Derived.Deep.QuietTactic
import Derived.BigQuiet
import Derived.Deep.RegionHeld3
namespace Go.Proofs.YtglbamalagacgaaGreat
open Go.RowKit
def cmpI (a b : Int) : Int := if a < b then -1 else if b < a then 1 else 0
def orI (x y : Int) : Int := if x = 0 then y else x
def cmpP (a l b m : Int) : Int := orI (cmpI a b) (cmpI l m)
def wid (l : Int) : Int := if l = 0 then 256 else if l = 1 then 128 else if l = 2 then 64 else if l = 3 then 32 else if l = 4 then 16 else if l = 5 then 8 else if l = 6 then 4 else if l = 7 then 2 else 1
def isPfx (a l : Int) : Bool := decide (0 <= l) && decide (l <= 8) && (decide (0 <= a) && decide (a < 256)) && decide (a % wid l = 0)
theorem cmpI_lt {a b : Int} (h : a < b) : cmpI a b = -1 := by simp [cmpI, h]
theorem cmpI_gt {a b : Int} (h : b < a) : cmpI a b = 1 := by unfold cmpI; rw [if_neg (by omega), if_pos h]
theorem cmpI_eq {a b : Int} (h : a = b) : cmpI a b = 0 := by unfold cmpI; rw [if_neg (by omega), if_neg (by omega)]
theorem wid_bd (l : Int) : 0 < wid l /\ wid l <= 256 := by unfold wid; (repeat' split) <;> omega
theorem ret_bool {a b : Bool} (h : a = b) : Ending.returned (.bool a) = .returned (.bool b) := by rw [h]
theorem ret_int {k : IntKind} {a b : Int} (h : a = b) : Ending.returned (.int k a) = .returned (.int k b) := by rw [h]
set_option maxHeartbeats 400000 in
theorem isAddress_any (a : Int) (w : World) :
  Calls Tryz.prog 77 #[.int .i64 a] w fun e w' => e = .returned (.bool (decide (0 <= a) && decide (a < 256))) /\ w' = w := by
 by_cases h : 0 <= a
 ·go_enter Tryz.func77, Tryz.ntmps77
  go_wp2
  go_ret
  exact ⟨by simp [h], rfl⟩
 ·go_enter Tryz.func77, Tryz.ntmps77
  go_wp2
  go_ret
  exact ⟨by simp; omega, rfl⟩
theorem isAddress_no (a : Int) (h : (decide (0 <= a) && decide (a < 256)) = false) (w : World) :
  Calls Tryz.prog 77 #[.int .i64 a] w fun e w' => e = .returned (.bool false) /\ w' = w := by
 have := isAddress_any a w
 rwa [h] at this
set_option maxHeartbeats 400000 in
theorem cmpInt_any (a b : Int) (w : World) :
  Calls Tryz.prog 128 #[.int .i64 a, .int .i64 b] w fun e w' => e = .returned (.int .i64 (cmpI a b)) /\ w' = w := by
 rcases Int.lt_trichotomy a b with h | h | h
 ·rw [cmpI_lt h]
  go_enter Tryz.func128, Tryz.ntmps128
  go_wp2
  go_ret
  exact ⟨rfl, rfl⟩
 ·rw [cmpI_eq h]
  subst h
  go_enter Tryz.func128, Tryz.ntmps128
  go_wp2
  go_ret
  exact ⟨rfl, rfl⟩
 ·rw [cmpI_gt h]
  have h' : ¬ a < b := by omega
  go_enter Tryz.func128, Tryz.ntmps128
  go_wp2
  go_ret
  exact ⟨rfl, rfl⟩
set_option maxHeartbeats 400000 in
theorem size_any (l : Int) (h0 : 0 <= l) (h8 : l <= 8) (w : World) :
  Calls Tryz.prog 101 #[.int .i64 l] w fun e w' => e = .returned (.int .i64 (wid l)) /\ w' = w := by
 have h : l = 0 ∨ l = 1 ∨ l = 2 ∨ l = 3 ∨ l = 4 ∨ l = 5 ∨ l = 6 ∨ l = 7 ∨ l = 8 := by omega
 rcases h with rfl | rfl | rfl | rfl | rfl | rfl | rfl | rfl | rfl
 all_goals
  go_enter Tryz.func101, Tryz.ntmps101
  go_wp2
  go_ret
  exact ⟨rfl, rfl⟩
set_option maxHeartbeats 400000 in
theorem or_two (b : Nat) (x y : Int) (w : World) (hx : w.cell? ⟨b, 0, none⟩ = some (.int .i64 x)) (hy : w.cell? ⟨b, 1, none⟩ = some (.int .i64 y)) :
  Calls Tryz.prog 134 #[.slice (some ⟨b, 0, none⟩) 2 2] w fun e w' => e = .returned (.int .i64 (orI x y)) /\ w' = w := by
 by_cases h : x = 0
 ·have h' : (x != 0) = false := by simp [h]
  by_cases h2 : y = 0
  ·have h2' : (y != 0) = false := by simp [h2]
   have H : orI x y = 0 := by simp [orI, h, h2]
   rw [H]
   clear h h2 H
   go_enter Tryz.func134, Tryz.ntmps134
   go_wp2
   refine wp_loop_rounds 3 ?_
   rw [rounds_succ]
   go_wp2
   rw [rounds_succ]
   go_wp2
   rw [rounds_succ]
   go_wp2
   go_ret
   exact ⟨rfl, rfl⟩
  ·have h2' : (y != 0) = true := by simp [h2]
   have H : orI x y = y := by simp [orI, h]
   rw [H]
   clear h h2 H
   go_enter Tryz.func134, Tryz.ntmps134
   go_wp2
   refine wp_loop_rounds 3 ?_
   rw [rounds_succ]
   go_wp2
   rw [rounds_succ]
   go_wp2
   go_ret
   exact ⟨rfl, rfl⟩
 ·have h' : (x != 0) = true := by simp [h]
  have H : orI x y = x := by simp [orI, h]
  rw [H]
  clear h H
  go_enter Tryz.func134, Tryz.ntmps134
  go_wp2
  refine wp_loop_rounds 3 ?_
  rw [rounds_succ]
  go_wp2
  go_ret
  exact ⟨rfl, rfl⟩
theorem bcell {W w1 : World} (hb : Below W.heap.size W w1) : (∀ b o, b < W.heap.size -> w1.cell? ⟨b, o, none⟩ = W.cell? ⟨b, o, none⟩) /\ (∀ b o, b < W.heap.size -> w1.frozen? ⟨b, o, none⟩ = W.frozen? ⟨b, o, none⟩) :=
 ⟨fun b o h => hb.cell (p := ⟨b, o, none⟩) h, fun b o h => hb.frozen (p := ⟨b, o, none⟩) h⟩
set_option maxHeartbeats 400000 in
theorem compare_any (a l b m : Int) (w : World) :
  Calls Tryz.prog 121 #[.agg #[.int .i64 a, .int .i64 l], .agg #[.int .i64 b, .int .i64 m]] w fun e w' => e = .returned (.int .i64 (cmpP a l b m)) /\ Below w.heap.size w w' := by
 go_enter Tryz.func121, Tryz.ntmps121
 go_wp2
 go_region_held3 (fun w' => w'.cell? ⟨w.heap.size, 0, none⟩ = some (.int .i64 a) /\ w'.cell? ⟨w.heap.size, 1, none⟩ = some (.int .i64 l) /\ w'.cell? ⟨w.heap.size + 1, 0, none⟩ = some (.int .i64 b) /\ w'.cell? ⟨w.heap.size + 1, 1, none⟩ = some (.int .i64 m)) (go_keep)
  (first
   | (go_at_call 128; refine (cmpInt_any _ _ _).mono ?_; rintro e w' ⟨rfl, rfl⟩)
   | (go_at_call 134; refine (or_two (w.heap.size + 2) (cmpI a b) (cmpI l m) _ ?hx ?hy).mono ?_; (case hx => simp [go_sem]); (case hy => simp [go_sem]); rintro e w' ⟨rfl, rfl⟩))
 go_wp2
 go_ret
 exact ⟨rfl, (by repeat (first | exact Below.refl _ _ | refine below_drewN ?_ _ | refine Below.drew ?_ | refine Below.trans ?_ (Below.mono (by assumption) ?_) | refine Below.alloc ?_ ?_ _ | refine Below.setCell ?_ ?_ _ | omega | (simp; omega) | simp))⟩
set_option maxHeartbeats 400000 in
theorem valid_any (a l : Int) (w : World) :
  Calls Tryz.prog 63 #[.agg #[.int .i64 a, .int .i64 l]] w fun e w' => e = .returned (.bool (isPfx a l)) /\ Below w.heap.size w w' := by
 by_cases h0 : 0 <= l
 ·by_cases h8 : l <= 8
  ·by_cases ha : 0 <= a /\ a < 256
   ·have hp : isPfx a l = decide (a % wid l = 0) := by simp [isPfx, h0, h8, ha]
    rw [hp]
    have hA : (decide (0 <= a) && decide (a < 256)) = true := by simp [ha]
    have hw0 := (wid_bd l).1
    have hw1 := (wid_bd l).2
    have hwn : ¬ wid l = 0 := by omega
    obtain ⟨ha0, ha1⟩ := ha
    go_enter Tryz.func63, Tryz.ntmps63
    go_wp2
    go_region_held3 (fun w' => w'.cell? ⟨w.heap.size, 0, none⟩ = some (.int .i64 a) /\ w'.cell? ⟨w.heap.size, 1, none⟩ = some (.int .i64 l)) (go_keep)
     (first
      | (go_at_call 77; refine (isAddress_any _ _).mono ?_; rw [hA]; rintro e w' ⟨rfl, rfl⟩)
      | (go_at_call 101; refine (size_any l h0 h8 _).mono ?_; rintro e w' ⟨rfl, rfl⟩))
    go_wp2
    go_ret
    exact ⟨ret_bool (by rw [Bool.eq_iff_iff]; simp [Int.tmod_eq_emod_of_nonneg ha0]), (by repeat (first | exact Below.refl _ _ | refine below_drewN ?_ _ | refine Below.drew ?_ | refine Below.trans ?_ (Below.mono (by assumption) ?_) | refine Below.alloc ?_ ?_ _ | refine Below.setCell ?_ ?_ _ | omega | (simp; omega) | simp))⟩
   ·have hA : (decide (0 <= a) && decide (a < 256)) = false := by simp; omega
    have hp : isPfx a l = false := by simp only [isPfx, hA]; simp
    rw [hp]
    clear ha hp
    go_enter Tryz.func63, Tryz.ntmps63
    go_wp2
    go_quiet ((go_at_call 77; exact Calls.quiet_of_same (isAddress_no a hA _)))
    go_wp2
    go_ret
    exact ⟨rfl, (by repeat (first | exact Below.refl _ _ | refine below_drewN ?_ _ | refine Below.drew ?_ | refine Below.trans ?_ (Below.mono (by assumption) ?_) | refine Below.alloc ?_ ?_ _ | refine Below.setCell ?_ ?_ _ | omega | (simp; omega) | simp))⟩
  ·have hp : isPfx a l = false := by simp [isPfx, h8]
   have hd : decide (l <= 8) = false := by simpa using h8
   rw [hp]
   clear hp
   go_enter Tryz.func63, Tryz.ntmps63
   go_wp2
   go_quiet (fail)
   go_wp2
   go_ret
   exact ⟨rfl, (by repeat (first | exact Below.refl _ _ | refine below_drewN ?_ _ | refine Below.drew ?_ | refine Below.trans ?_ (Below.mono (by assumption) ?_) | refine Below.alloc ?_ ?_ _ | refine Below.setCell ?_ ?_ _ | omega | (simp; omega) | simp))⟩
 ·have hp : isPfx a l = false := by simp [isPfx, h0]
  have hd : decide (0 <= l) = false := by simpa using h0
  rw [hp]
  clear hp
  go_enter Tryz.func63, Tryz.ntmps63
  go_wp2
  go_quiet (fail)
  go_wp2
  go_ret
  exact ⟨rfl, (by repeat (first | exact Below.refl _ _ | refine below_drewN ?_ _ | refine Below.drew ?_ | refine Below.trans ?_ (Below.mono (by assumption) ?_) | refine Below.alloc ?_ ?_ _ | refine Below.setCell ?_ ?_ _ | omega | (simp; omega) | simp))⟩
abbrev pfxV (a l : Int) : Value := .agg #[.int .i64 a, .int .i64 l]
abbrev rteV (a l n : Int) : Value := .agg #[.int .i64 a, .int .i64 l, .int .i64 n]
set_option maxHeartbeats 400000 in
theorem first_any (w : World) :
  Calls Tryz.prog 97 #[] w fun e w' => e = .returned (pfxV 0 0) /\ Below w.heap.size w w' := by
 go_enter Tryz.func97, Tryz.ntmps97
 go_wp2
 exact bodyPost_ret (v := pfxV 0 0) (by simp [results, Tryz.results97, go_sem]) rfl ⟨rfl, (by repeat (first | exact Below.refl _ _ | refine below_drewN ?_ _ | refine Below.drew ?_ | refine Below.trans ?_ (Below.mono (by assumption) ?_) | refine Below.alloc ?_ ?_ _ | refine Below.setCell ?_ ?_ _ | omega | (simp; omega) | simp))⟩
set_option maxHeartbeats 400000 in
theorem of_any (a l n : Int) (w : World) :
  Calls Tryz.prog 79 #[rteV a l n] w fun e w' => e = .returned (pfxV a l) /\ Below w.heap.size w w' := by
 go_enter Tryz.func79, Tryz.ntmps79
 go_wp2
 exact bodyPost_ret (v := pfxV a l) (by simp [results, Tryz.results79, go_sem]) rfl ⟨rfl, (by repeat (first | exact Below.refl _ _ | refine below_drewN ?_ _ | refine Below.drew ?_ | refine Below.trans ?_ (Below.mono (by assumption) ?_) | refine Below.alloc ?_ ?_ _ | refine Below.setCell ?_ ?_ _ | omega | (simp; omega) | simp))⟩
set_option maxHeartbeats 400000 in
theorem route_any (a l n : Int) (w : World) :
  Calls Tryz.prog 123 #[pfxV a l, .int .i64 n] w fun e w' => e = .returned (rteV a l n) /\ Below w.heap.size w w' := by
 go_enter Tryz.func123, Tryz.ntmps123
 go_wp2
 exact bodyPost_ret (v := rteV a l n) (by simp [results, Tryz.results123, go_sem]) rfl ⟨rfl, (by repeat (first | exact Below.refl _ _ | refine below_drewN ?_ _ | refine Below.drew ?_ | refine Below.trans ?_ (Below.mono (by assumption) ?_) | refine Below.alloc ?_ ?_ _ | refine Below.setCell ?_ ?_ _ | omega | (simp; omega) | simp))⟩
set_option maxHeartbeats 400000 in
theorem covering_any (a l : Int) (h0 : 0 <= l) (h8 : l <= 8) (ha : 0 <= a) (ha' : a < 256) (w : World) :
  Calls Tryz.prog 143 #[.int .i64 a, .int .i64 l] w fun e w' => e = .returned (pfxV (a - a % wid l) l) /\ Below w.heap.size w w' := by
 have hw0 := (wid_bd l).1
 have hw1 := (wid_bd l).2
 have hwn : ¬ wid l = 0 := by omega
 have hm := Int.emod_nonneg a hwn
 have hm' := Int.emod_lt_of_pos a hw0
 go_enter Tryz.func143, Tryz.ntmps143
 go_wp2_with (go_at_call 101; refine (size_any l h0 h8 _).mono ?_; rintro e w' ⟨rfl, rfl⟩)
 exact bodyPost_ret (v := pfxV (a - a % wid l) l) (by simp [results, Tryz.results143, go_sem]) rfl ⟨rfl, (by repeat (first | exact Below.refl _ _ | refine below_drewN ?_ _ | refine Below.drew ?_ | refine Below.trans ?_ (Below.mono (by assumption) ?_) | refine Below.alloc ?_ ?_ _ | refine Below.setCell ?_ ?_ _ | omega | (simp; omega) | simp))⟩
end Go.Proofs.YtglbamalagacgaaGreat

namespace Go.Proofs.YtglbamalagacgaaGreat
open Go.RowKit
theorem hide {p : Prop} (h : p) : Hid p := h
abbrev entV (a l n : Int) : Value := .agg #[.int .i64 a, .int .i64 l, .int .i64 n]
abbrev ptrV (b : Nat) : Value := .pointer (some ⟨b, 0, none⟩)
abbrev cmpV : Value := .func (.func 121) #[] #[]
set_option maxHeartbeats 400000 in
theorem find1_any (a l n b m : Int) (bx st : Nat) (w : World) (hbx : w.cell? ⟨bx, 0, none⟩ = some (ptrV st)) (hst : w.cell? ⟨st, 0, none⟩ = some cmpV) :
  Calls Tryz.prog 155 #[entV a l n, pfxV b m, ptrV bx] w fun e w' => e = .returned (.int .i64 (cmpP a l b m)) /\ Below w.heap.size w w' := by
 have h1 := World.block_lt_of_cell? w _ hbx
 have h2 := World.block_lt_of_cell? w _ hst
 simp only at h1 h2
 have h1' : bx < w.heap.size + 1 + 1 := by omega
 have h2' : st < w.heap.size + 1 + 1 := by omega
 have h3' : w.heap.size < w.heap.size + 1 + 1 := by omega
 go_enter Tryz.func155, Tryz.ntmps155
 go_wp2
 go_region_held3 (fun w' => w'.cell? ⟨bx, 0, none⟩ = some (ptrV st) /\ w'.cell? ⟨st, 0, none⟩ = some cmpV /\ w'.cell? ⟨w.heap.size, 0, none⟩ = some (.int .i64 a) /\ w'.cell? ⟨w.heap.size, 1, none⟩ = some (.int .i64 l) /\ w'.cell? ⟨w.heap.size + 1, 0, none⟩ = some (.int .i64 b) /\ w'.cell? ⟨w.heap.size + 1, 1, none⟩ = some (.int .i64 m)) (go_keep)
  (first
   | (go_at_call 121; refine (compare_any _ _ _ _ _).mono ?_; rintro e w' ⟨rfl, hb⟩; have hc := (bcell hb).1))
 go_wp2
 go_ret
 exact ⟨rfl, (by repeat (first | exact Below.refl _ _ | refine below_drewN ?_ _ | refine Below.drew ?_ | refine Below.trans ?_ (Below.mono (by assumption) ?_) | refine Below.alloc ?_ ?_ _ | refine Below.setCell ?_ ?_ _ | omega | (simp; omega) | simp))⟩
structure Ent where
 a : Int
 l : Int
 n : Int
def Ent.z : Ent := ⟨0, 0, 0⟩
def EntsAt (w : World) (e : Nat) (xs : List Ent) : Prop :=
 ∀ i, i < xs.length -> w.cell? ⟨e, i * 3, none⟩ = some (.int .i64 (xs[i]?.getD Ent.z).a) /\ w.cell? ⟨e, i * 3 + 1, none⟩ = some (.int .i64 (xs[i]?.getD Ent.z).l) /\ w.cell? ⟨e, i * 3 + 2, none⟩ = some (.int .i64 (xs[i]?.getD Ent.z).n)
theorem ents_later {w wr : World} {e bx st h : Nat} {b m : Int} {xs : List Ent} (hx : EntsAt w e xs) (hbx : w.cell? ⟨bx, 0, none⟩ = some (ptrV st)) (hst : w.cell? ⟨st, 0, none⟩ = some cmpV)
  (hB : Below (w.heap.size + 1) (w.alloc (Obj.cells #[.int .i64 b, .int .i64 m] 65)) wr) (hh : h < xs.length) :
  wr.cell? ⟨e, h * 3, none⟩ = some (.int .i64 (xs[h]?.getD Ent.z).a) /\ wr.cell? ⟨e, h * 3 + 1, none⟩ = some (.int .i64 (xs[h]?.getD Ent.z).l) /\ wr.cell? ⟨e, h * 3 + 2, none⟩ = some (.int .i64 (xs[h]?.getD Ent.z).n)
  /\ wr.cell? ⟨w.heap.size, 0, none⟩ = some (.int .i64 b) /\ wr.cell? ⟨w.heap.size, 1, none⟩ = some (.int .i64 m) /\ wr.cell? ⟨bx, 0, none⟩ = some (ptrV st) /\ wr.cell? ⟨st, 0, none⟩ = some cmpV
  /\ e < wr.heap.size /\ w.heap.size < wr.heap.size := by
 obtain ⟨hx0, hx1, hx2⟩ := hx h hh
 have he := World.block_lt_of_cell? w _ hx0
 have h1 := World.block_lt_of_cell? w _ hbx
 have h2 := World.block_lt_of_cell? w _ hst
 simp only at he h1 h2
 have e0 : wr.cell? ⟨e, h * 3, none⟩ = some (.int .i64 (xs[h]?.getD Ent.z).a) := (hB.cell (p := ⟨e, h * 3, none⟩) (by simp; omega)).trans (by simp [go_sem, *])
 have t0 : wr.cell? ⟨w.heap.size, 0, none⟩ = some (.int .i64 b) := (hB.cell (p := ⟨w.heap.size, 0, none⟩) (by simp)).trans (by simp [go_sem])
 exact ⟨e0, (hB.cell (p := ⟨e, h * 3 + 1, none⟩) (by simp; omega)).trans (by simp [go_sem, *]), (hB.cell (p := ⟨e, h * 3 + 2, none⟩) (by simp; omega)).trans (by simp [go_sem, *]),
  t0, (hB.cell (p := ⟨w.heap.size, 1, none⟩) (by simp)).trans (by simp [go_sem]), (hB.cell (p := ⟨bx, 0, none⟩) (by simp; omega)).trans (by simp [go_sem, *]), (hB.cell (p := ⟨st, 0, none⟩) (by simp; omega)).trans (by simp [go_sem, *]),
  World.block_lt_of_cell? wr _ e0, World.block_lt_of_cell? wr _ t0⟩
set_option maxHeartbeats 400000 in
theorem bsearch_any (xs : List Ent) (e cap bx st : Nat) (b m : Int) (w : World) (hn : xs.length <= 1000000) (hx : EntsAt w e xs)
  (hbx : w.cell? ⟨bx, 0, none⟩ = some (ptrV st)) (hst : w.cell? ⟨st, 0, none⟩ = some cmpV)
  (hmono : ∀ i j, i <= j -> j < xs.length -> cmpP (xs[j]?.getD Ent.z).a (xs[j]?.getD Ent.z).l b m < 0 -> cmpP (xs[i]?.getD Ent.z).a (xs[i]?.getD Ent.z).l b m < 0) :
  Calls Tryz.prog 154 #[.slice (some ⟨e, 0, none⟩) xs.length cap, pfxV b m, .func (.func 155) #[] #[ptrV bx]] w fun r w' =>
   Below w.heap.size w w' /\ ∃ i : Nat, i <= xs.length /\ (∀ k, k < i -> cmpP (xs[k]?.getD Ent.z).a (xs[k]?.getD Ent.z).l b m < 0) /\ (∀ k, i <= k -> k < xs.length -> 0 <= cmpP (xs[k]?.getD Ent.z).a (xs[k]?.getD Ent.z).l b m) ∧
    r = .returned (.tuple #[.int .i64 i, .bool (decide (i < xs.length) && (cmpP (xs[i]?.getD Ent.z).a (xs[i]?.getD Ent.z).l b m == 0))]) := by
 have h1 := World.block_lt_of_cell? w _ hbx
 have h2 := World.block_lt_of_cell? w _ hst
 simp only at h1 h2
 go_enter Tryz.func154, Tryz.ntmps154
 go_wp2
 have hmono' : Hid (∀ i j, i <= j -> j < xs.length -> cmpP (xs[j]?.getD Ent.z).a (xs[j]?.getD Ent.z).l b m < 0 -> cmpP (xs[i]?.getD Ent.z).a (xs[i]?.getD Ent.z).l b m < 0) := hmono
 clear hmono
 go_loopw [9, 10] (fun i j wr => ∃ p q : Nat, i = .int .i64 p /\ j = .int .i64 q /\ p <= q /\ q <= xs.length /\ Hid (∀ k, k < p -> cmpP (xs[k]?.getD Ent.z).a (xs[k]?.getD Ent.z).l b m < 0) /\ Hid (∀ k, q <= k -> k < xs.length -> 0 <= cmpP (xs[k]?.getD Ent.z).a (xs[k]?.getD Ent.z).l b m) /\ Below (w.heap.size + 1) (w.alloc (Obj.cells #[.int .i64 b, .int .i64 m] 65)) wr) (fun i j _ => (intOf j).toNat - (intOf i).toNat)
 case atStart => exact ⟨0, xs.length, rfl, rfl, Nat.zero_le _, Nat.le_refl _, fun k hk => absurd hk (Nat.not_lt_zero _), fun k h1 h2 => absurd h1 (by omega), Below.refl _ _⟩
 case round =>
  obtain ⟨p, q, rfl, rfl, hpq, hq, hlo, hhi, hB⟩ := hrel
  by_cases hlt : p < q
  ·go_wp2
   have hh : ((p : Int) + (q : Int)) / 2 = (((p + q) / 2 : Nat) : Int) := by omega
   rw [hh]
   have hh1 : p <= (p + q) / 2 := by omega
   have hh2 : (p + q) / 2 < q := by omega
   clear hh
   generalize (p + q) / 2 = h at *
   obtain ⟨e0, e1, e2, t0, t1, b0, s0, l0, l1⟩ := ents_later (h := h) hx hbx hst hB (by omega)
   have i0 : (0 : Int) <= (h : Int) := by omega
   have i1 : (h : Int) < (xs.length : Int) := by omega
   go_region_held3 (fun w' => w'.cell? ⟨e, h * 3, none⟩ = some (.int .i64 (xs[h]?.getD Ent.z).a) /\ w'.cell? ⟨e, h * 3 + 1, none⟩ = some (.int .i64 (xs[h]?.getD Ent.z).l) /\ w'.cell? ⟨e, h * 3 + 2, none⟩ = some (.int .i64 (xs[h]?.getD Ent.z).n) /\ w'.cell? ⟨w.heap.size, 0, none⟩ = some (.int .i64 b) /\ w'.cell? ⟨w.heap.size, 1, none⟩ = some (.int .i64 m)) (go_keep)
    (first
     | (go_at_call 155; refine (find1_any _ _ _ _ _ bx st _ ?h1 ?h2).mono ?_; (case h1 => simp [go_sem, *]); (case h2 => simp [go_sem, *]); rintro _ w' ⟨rfl, hb⟩; have hc : ∀ b o, b < wr.heap.size -> w'.cell? ⟨b, o, none⟩ = wr.cell? ⟨b, o, none⟩ := (bcell hb).1))
   have hB2 : Below (w.heap.size + 1) (w.alloc (Obj.cells #[.int .i64 b, .int .i64 m] 65)) w' := hB.drew.trans (hb.mono (by have := hB.size; simp at this; simp; omega))
   clear hB hb hc e0 e1 e2 t0 t1 b0 s0 l0 l1
   by_cases hcm : cmpP (xs[h]?.getD Ent.z).a (xs[h]?.getD Ent.z).l b m < 0
   ·have HC := hide hcm
    go_wp2
    go_roundw
    case rel => exact ⟨h + 1, q, by go_num, rfl, by omega, hq, fun k hk => hmono'.out k h (by omega) (by omega) HC.out, hhi, hB2⟩
    case measure => simp [intOf]; omega
   ·go_wp2
    go_roundw
    case rel => exact ⟨p, h, rfl, rfl, hh1, by omega, hlo, fun k hk hk' => by
     rcases Nat.lt_or_ge k q with h3 | h3
     ·exact Int.not_lt.1 fun hc => hcm (hmono'.out h k hk hk' hc)
     ·exact hhi.out k h3 hk', hB2⟩
    case measure => simp [intOf]; omega
  ·obtain rfl : p = q := by omega
   by_cases hl2 : p < xs.length
   ·obtain ⟨e0, e1, e2, t0, t1, b0, s0, l0, l1⟩ := ents_later (h := p) hx hbx hst hB hl2
    have i0 : (0 : Int) <= (p : Int) := by omega
    have i1 : (p : Int) < (xs.length : Int) := by omega
    go_wp2
    go_region_held3 (fun w' => w'.cell? ⟨e, p * 3, none⟩ = some (.int .i64 (xs[p]?.getD Ent.z).a) /\ w'.cell? ⟨e, p * 3 + 1, none⟩ = some (.int .i64 (xs[p]?.getD Ent.z).l) /\ w'.cell? ⟨e, p * 3 + 2, none⟩ = some (.int .i64 (xs[p]?.getD Ent.z).n) /\ w'.cell? ⟨w.heap.size, 0, none⟩ = some (.int .i64 b) /\ w'.cell? ⟨w.heap.size, 1, none⟩ = some (.int .i64 m)) (go_keep)
     (first
      | (go_at_call 155; refine (find1_any _ _ _ _ _ bx st _ ?h1 ?h2).mono ?_; (case h1 => simp [go_sem, *]); (case h2 => simp [go_sem, *]); rintro _ w' ⟨rfl, hb⟩; have hc : ∀ b o, b < wr.heap.size -> w'.cell? ⟨b, o, none⟩ = wr.cell? ⟨b, o, none⟩ := (bcell hb).1))
    have hB2 : Below (w.heap.size + 1) (w.alloc (Obj.cells #[.int .i64 b, .int .i64 m] 65)) w' := hB.drew.trans (hb.mono (by have := hB.size; simp at this; simp; omega))
    clear hB hb hc e0 e1 e2 t0 t1 b0 s0 l0 l1
    go_wp2
    go_ret2
    exact ⟨((Below.refl _ w).alloc (Nat.le_refl _) _).trans (hB2.mono (by simp)), p, hq, hlo, hhi, by simp [hl2]⟩
   ·have hd : decide ((p : Int) < (xs.length : Int)) = false := by simp; omega
    go_wp2
    go_quiet (fail)
    go_wp2
    go_ret2
    exact ⟨(by repeat (first | exact Below.refl _ _ | refine below_drewN ?_ _ | refine Below.drew ?_ | refine Below.trans ?_ (Below.mono (by assumption) ?_) | refine Below.alloc ?_ ?_ _ | refine Below.setCell ?_ ?_ _ | omega | (simp; omega) | simp)), p, hq, hlo, hhi, by simp [hl2]⟩
end Go.Proofs.YtglbamalagacgaaGreat

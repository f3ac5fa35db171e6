import Derived.Test.YtglbamalagacgaaGreatA6
namespace Go.Proofs.YtglbamalagacgaaGreat
open Go.RowKit
def eqE (x y : Ent) : Bool := x.a == y.a && x.l == y.l && x.n == y.n
theorem eqE_iff (x y : Ent) : eqE x y = true ↔ x = y := by
 cases x; cases y
 simp [eqE, and_assoc]
def rt (xs : List Ent) (a : Int) : Ent := (bestE xs a).getD ⟨0, 0, 0⟩
def strB (xs : List Ent) (k : Int) : Bool := decide (0 <= k) && decide (k < 256) && (decide (k = 0) || !(eqE (rt xs (k - 1)) (rt xs k)))
def strR (xs : List Ent) (k : Int) : Option Ent := if strB xs k then some (rt xs k) else none
theorem rteO_rt (xs : List Ent) (a : Int) : R.rteO (bestE xs a) = rteV (rt xs a).a (rt xs a).l (rt xs a).n := by
 unfold rt
 cases bestE xs a <;> rfl
theorem last_get {ys : List R.Ent} {m : Int} {r : Ent} (hs : R.Sorted ys) (h : R.getR ys m = some r) : R.lastR ys m = some r := by
 induction ys with
 | nil => cases h
 | cons y ys ih =>
  obtain ⟨hs1, hs2⟩ := R.sorted_tail hs
  rw [R.getR] at h
  rw [R.lastR]
  split at h
  ·rename_i he
   have : R.lastR ys m = none := R.lastR_none fun z hz => by have := hs2 z hz; omega
   rw [if_pos (by omega), this]
   exact h
  ·rename_i he
   have hle : y.k <= m := by
    by_cases hc : y.k <= m
    ·exact hc
    ·have : R.getR ys m = none := R.getR_none fun z hz => by have := hs2 z hz; omega
     rw [this] at h; cases h
   rw [if_pos hle, ih hs1 h]
theorem last_step {ys : List R.Ent} {m : Int} (hs : R.Sorted ys) (h : R.getR ys (m + 1) = none) : R.lastR ys (m + 1) = R.lastR ys m := by
 induction ys with
 | nil => rfl
 | cons y ys ih =>
  obtain ⟨hs1, hs2⟩ := R.sorted_tail hs
  rw [R.getR] at h
  split at h
  ·cases h
  ·rename_i he
   rw [R.lastR, R.lastR, ih hs1 h]
   by_cases hc : y.k <= m
   ·rw [if_pos (by omega), if_pos hc]
   ·rw [if_neg (by omega), if_neg hc]
theorem last_neg {ys : List R.Ent} {m : Int} (h : ∀ k, k <= m -> R.getR ys k = none) : R.lastR ys m = none := by
 cases ys with
 | nil => rfl
 | cons y ys =>
  rw [R.lastR]
  have : ¬ y.k <= m := fun hc => by
   have := h y.k hc
   rw [R.getR, if_pos rfl] at this; cases this
  rw [if_neg this]
theorem strR_zero (xs : List Ent) : strR xs 0 = some (rt xs 0) := by simp [strR, strB]
theorem strR_neg (xs : List Ent) {k : Int} (h : k < 0) : strR xs k = none := by
 have : strB xs k = false := by unfold strB; rw [decide_eq_false (by omega : ¬ 0 <= k)]; rfl
 simp [strR, this]
theorem strR_big (xs : List Ent) {k : Int} (h : 256 <= k) : strR xs k = none := by
 have : strB xs k = false := by unfold strB; rw [decide_eq_false (by omega : ¬ k < 256)]; simp
 simp [strR, this]
theorem strR_in (xs : List Ent) {k : Int} (h0 : 0 < k) (h : k < 256) : strR xs k = if eqE (rt xs (k - 1)) (rt xs k) then none else some (rt xs k) := by
 have : strB xs k = !(eqE (rt xs (k - 1)) (rt xs k)) := by
  unfold strB
  rw [decide_eq_true (by omega : 0 <= k), decide_eq_true h, decide_eq_false (by omega : ¬ k = 0)]; simp
 unfold strR
 rw [this]
 cases eqE (rt xs (k - 1)) (rt xs k) <;> rfl
theorem last_canon {ys : List R.Ent} {xs : List Ent} (hs : R.Sorted ys) : ∀ (m : Nat), m < 256 -> (∀ k : Int, k <= m -> R.getR ys k = strR xs k) -> R.lastR ys m = some (rt xs m)
 | 0, _, h => last_get hs ((h 0 (by omega)).trans (strR_zero xs))
 | m + 1, hm, h => by
  have h1 := h ((m + 1 : Nat) : Int) (by omega)
  rw [strR_in xs (by omega) (by omega)] at h1
  have e : (((m + 1 : Nat) : Int) - 1) = (m : Int) := by omega
  rw [e] at h1
  cases he : eqE (rt xs (m : Int)) (rt xs ((m + 1 : Nat) : Int)) with
  | false => rw [he] at h1; exact last_get hs h1
  | true =>
   rw [he] at h1
   have ih := last_canon hs m (by omega) (fun k hk => h k (by omega))
   have h2 : R.getR ys ((m : Int) + 1) = none := h1
   have := last_step hs h2
   have e2 : ((m + 1 : Nat) : Int) = (m : Int) + 1 := by omega
   rw [e2] at he ⊢
   rw [this, ih, (eqE_iff _ _).1 he]
theorem R_ext {xs ys : List R.Ent} (hx : R.Sorted xs) (hy : R.Sorted ys) (h : ∀ k, R.getR xs k = R.getR ys k) : xs = ys := by
 induction xs generalizing ys with
 | nil =>
  cases ys with
  | nil => rfl
  | cons y ys => have := h y.k; rw [R.getR, R.getR, if_pos rfl] at this; cases this
 | cons x xs ih =>
  obtain ⟨hx1, hx2⟩ := R.sorted_tail hx
  cases ys with
  | nil => have := h x.k; simp [R.getR] at this
  | cons y ys =>
   obtain ⟨hy1, hy2⟩ := R.sorted_tail hy
   have hk : x.k = y.k := by
    rcases Int.lt_trichotomy x.k y.k with h1 | h1 | h1
    ·have h2 := h x.k
     rw [R.getR, if_pos rfl, R.getR, if_neg (by omega), R.getR_none (fun z hz => by have := hy2 z hz; omega)] at h2
     cases h2
    ·exact h1
    ·have h2 := h y.k
     rw [R.getR, if_neg (by omega), R.getR, if_pos rfl, R.getR_none (fun z hz => by have := hx2 z hz; omega)] at h2
     cases h2
   have hv : x = y := by
    have h2 := h x.k
    rw [R.getR, if_pos rfl, R.getR, if_pos hk.symm] at h2
    cases x; cases y
    simp only [R.Ent.val, Option.some.injEq, Ent.mk.injEq] at h2
    simp_all
   subst hv
   congr 1
   refine ih hx1 hy1 fun k => ?_
   have h2 := h k
   rw [R.getR, R.getR] at h2
   by_cases hc : x.k = k
   ·rw [R.getR_none (fun z hz => by have := hx2 z hz; omega), R.getR_none (fun z hz => by have := hy2 z hz; omega)]
   ·rwa [if_neg hc, if_neg hc] at h2
def strN (xs : List Ent) : Nat -> List R.Ent
 | 0 => []
 | n + 1 => strN xs n ++ (match strR xs n with | some r => [R.mkE n r] | none => [])
def strL (xs : List Ent) : List R.Ent := strN xs 256
theorem strN_key (xs : List Ent) : ∀ n, ∀ y ∈ strN xs n, 0 <= y.k /\ y.k < n
 | 0, y, hy => by simp [strN] at hy
 | n + 1, y, hy => by
  rw [strN, List.mem_append] at hy
  rcases hy with hy | hy
  ·have := strN_key xs n y hy; omega
  ·cases h : strR xs n with
   | none => rw [h] at hy; cases hy
   | some r => rw [h] at hy; simp at hy; subst hy; simp [R.mkE]; omega
theorem strN_sorted (xs : List Ent) : ∀ n, R.Sorted (strN xs n)
 | 0 => List.Pairwise.nil
 | n + 1 => by
  rw [strN]
  refine List.pairwise_append.2 ⟨strN_sorted xs n, ?_, fun x hx y hy => ?_⟩
  ·cases strR xs n <;> simp
  ·have := strN_key xs n x hx
   cases h : strR xs n with
   | none => rw [h] at hy; cases hy
   | some r => rw [h] at hy; simp at hy; subst hy; simp [R.mkE]; omega
theorem getR_append {xs ys : List R.Ent} {k : Int} (h : ∀ y ∈ xs, y.k ≠ k) : R.getR (xs ++ ys) k = R.getR ys k := by
 induction xs with
 | nil => rfl
 | cons x xs ih => rw [List.cons_append, R.getR, if_neg (h x (by simp)), ih fun y hy => h y (by simp [hy])]
theorem getR_append_left {xs ys : List R.Ent} {k : Int} (h : ∀ y ∈ ys, y.k ≠ k) : R.getR (xs ++ ys) k = R.getR xs k := by
 induction xs with
 | nil => exact R.getR_none h
 | cons x xs ih => rw [List.cons_append, R.getR, R.getR, ih]
theorem strN_get (xs : List Ent) : ∀ (n : Nat) (k : Int), R.getR (strN xs n) k = if k < n then strR xs k else none
 | 0, k => by
  rw [strN, R.getR]
  split
  ·rename_i h; rw [strR_neg xs (by omega)]
  ·rfl
 | n + 1, k => by
  rw [strN]
  by_cases hk : k = n
  ·subst hk
   rw [getR_append (fun y hy => by have := strN_key xs n y hy; omega), if_pos (by omega)]
   cases strR xs n with
   | none => rfl
   | some r => simp [R.getR, R.mkE, R.Ent.val]
  ·rw [getR_append_left (fun y hy => by
    cases h : strR xs n with
    | none => rw [h] at hy; cases hy
    | some r => rw [h] at hy; simp at hy; subst hy; simp [R.mkE]; omega), strN_get xs n k]
   by_cases h1 : k < n
   ·rw [if_pos h1, if_pos (by omega)]
   ·rw [if_neg h1, if_neg (by omega)]
theorem strL_get (xs : List Ent) (k : Int) : R.getR (strL xs) k = strR xs k := by
 rw [strL, strN_get]
 split
 ·rfl
 ·rename_i h; rw [strR_big xs (by omega)]
theorem strL_eq {ys : List R.Ent} {xs : List Ent} (hs : R.Sorted ys) (h : ∀ k, R.getR ys k = strR xs k) : ys = strL xs :=
 R_ext hs (strN_sorted xs 256) fun k => (h k).trans (strL_get xs k).symm
theorem strN_len (xs : List Ent) : ∀ n, (strN xs n).length <= n
 | 0 => Nat.le_refl _
 | n + 1 => by
  have := strN_len xs n
  rw [strN, List.length_append]
  cases strR xs n <;> simp <;> omega
theorem R_len {hi : Int} : ∀ (ys : List R.Ent) (lo : Int), R.Sorted ys -> (∀ y ∈ ys, lo <= y.k /\ y.k < hi) -> ys.length <= (hi - lo).toNat := by
 intro ys
 induction ys with
 | nil => intros; simp
 | cons x xs ih =>
  intro lo hs hx
  obtain ⟨hs1, hs2⟩ := R.sorted_tail hs
  have h1 := hx x (by simp)
  have := ih (x.k + 1) hs1 fun y hy => by
   have h2 := hx y (by simp [hy])
   have h3 := hs2 y hy
   omega
  simp
  omega
theorem getR_mem {ys : List R.Ent} {y : R.Ent} (hy : y ∈ ys) : (R.getR ys y.k).isSome = true := by
 induction ys with
 | nil => cases hy
 | cons x xs ih =>
  rw [R.getR]
  split
  ·rfl
  ·rename_i h
   rcases List.mem_cons.1 hy with rfl | h1
   ·exact absurd rfl h
   ·exact ih h1
theorem bestN_off {xs ys : List Ent} {a l k : Int} (h : ∀ b m, ¬ (b = a /\ m = l) -> getE xs b m = getE ys b m) (hl0 : 0 <= l) (hk : k < a ∨ a + wid l <= k) (hk0 : 0 <= k) : ∀ n, bestN xs k n = bestN ys k n
 | 0 => rfl
 | n + 1 => by
  have : ¬ (cov k n = a /\ (n : Int) = l) := by
   rintro ⟨h1, h2⟩
   rw [h2] at h1
   have hw0 := (wid_bd l).1
   have hm := Int.emod_nonneg k (show wid l ≠ 0 by omega)
   have hm2 := Int.emod_lt_of_pos k hw0
   unfold cov at h1
   omega
  rw [bestN, bestN, h _ _ this, bestN_off h hl0 hk hk0 n]
theorem rt_off {xs ys : List Ent} {a l k : Int} (h : ∀ b m, ¬ (b = a /\ m = l) -> getE xs b m = getE ys b m) (hl0 : 0 <= l) (hk : k < a ∨ a + wid l <= k) (hk0 : 0 <= k) : rt xs k = rt ys k := by
 unfold rt bestE
 rw [bestN_off h hl0 hk hk0]
theorem strR_off {xs ys : List Ent} {a l k : Int} (h : ∀ b m, ¬ (b = a /\ m = l) -> getE xs b m = getE ys b m) (hl0 : 0 <= l) (hk : k < a ∨ a + wid l < k) : strR xs k = strR ys k := by
 by_cases h0 : 0 <= k
 ·by_cases h1 : k = 0
  ·subst h1
   rw [strR_zero, strR_zero, rt_off h hl0 (by omega) (by omega)]
  ·by_cases h2 : k < 256
   ·rw [strR_in xs (by omega) h2, strR_in ys (by omega) h2, rt_off h hl0 (by omega) (by omega), rt_off (k := k) h hl0 (by omega) (by omega)]
   ·rw [strR_big xs (by omega), strR_big ys (by omega)]
 ·rw [strR_neg xs (by omega), strR_neg ys (by omega)]
end Go.Proofs.YtglbamalagacgaaGreat

namespace Go.Proofs.YtglbamalagacgaaGreat
open Go.RowKit
def goB (o : Option Ent) (r : Ent) : Bool := match o with
 | some x => eqE x r
 | none => false
set_option maxHeartbeats 400000 in
theorem goesOn_any (p lp sp : Nat) (ys : List R.Ent) (F : List Nat) (i : Int) (r : Ent) (w : World) (hp : w.heap[p]? = some (.cells #[ptrV lp, ptrV sp] 176 (0, 0))) (hS : R.StoreF w sp ys F) (h0 : 0 <= i) (h1 : i < 256) :
  Calls Tryz.prog 139 #[ptrV p, .int .i64 i, rteV r.a r.l r.n] w fun e w' => Below w.heap.size w w' /\ e = .returned (.bool (goB (R.lastR ys (i - 1)) r)) := by
 have hlt := (Array.getElem?_eq_some_iff.1 hp).1
 have c1 : w.cell? ⟨p, 1, none⟩ = some (ptrV sp) := by simp [World.cell?, hp]
 have hB1 : Below w.heap.size w (w.alloc (.cells #[.int .i64 r.a, .int .i64 r.l, .int .i64 r.n] 90)) := (Below.refl _ w).alloc (Nat.le_refl _) _
 have hw1 : IntKind.i64.wrap (i - 1) = i - 1 := by rw [IntKind.wrap_i64]; omega
 have hla := hide (R.last_F sp ys F (i - 1) _ (hS.later hB1))
 clear hp hS
 go_enter Tryz.func139, Tryz.ntmps139
 go_wp2_with fail
 refine hla.out.mono ?_
 rintro _ w2 ⟨hB2, rfl⟩
 have v0 : w2.cell? ⟨w.heap.size, 0, none⟩ = some (.int .i64 r.a) := (hB2.cell (p := ⟨w.heap.size, 0, none⟩) (by simp)).trans (by simp [go_sem])
 have v1 : w2.cell? ⟨w.heap.size, 1, none⟩ = some (.int .i64 r.l) := (hB2.cell (p := ⟨w.heap.size, 1, none⟩) (by simp)).trans (by simp [go_sem])
 have v2 : w2.cell? ⟨w.heap.size, 2, none⟩ = some (.int .i64 r.n) := (hB2.cell (p := ⟨w.heap.size, 2, none⟩) (by simp)).trans (by simp [go_sem])
 have hwl : w.heap.size < w2.heap.size := by have := hB2.size; simp at this; omega
 have hB3 := hB1.trans (hB2.mono (by simp))
 clear hla hB1 hB2
 cases hl : R.lastR ys (i - 1) with
 | none =>
  have HG := hide (show goB (R.lastR ys (i - 1)) r = false by rw [hl]; rfl)
  simp only [R.rteO, Option.isSome_none]
  clear hl
  go_wp2
  go_ret
  exact ⟨(by repeat (first | exact Below.refl _ _ | refine below_drewN ?_ _ | refine Below.drew ?_ | refine Below.trans ?_ (Below.mono (by assumption) ?_) | refine Below.alloc ?_ ?_ _ | refine Below.setCell ?_ ?_ _ | omega | (simp; omega) | simp)), by rw [HG.out]; rfl⟩
 | some x =>
  simp only [R.rteO, Option.isSome_some]
  cases he : eqE x r with
  | true =>
   have hx := (eqE_iff x r).1 he
   subst hx
   have HG := hide (show goB (R.lastR ys (i - 1)) x = true by rw [hl]; exact he)
   clear he hl
   go_wp2
   go_ret
   exact ⟨(by repeat (first | exact Below.refl _ _ | refine below_drewN ?_ _ | refine Below.drew ?_ | refine Below.trans ?_ (Below.mono (by assumption) ?_) | refine Below.alloc ?_ ?_ _ | refine Below.setCell ?_ ?_ _ | omega | (simp; omega) | simp)), by rw [HG.out]; rfl⟩
  | false =>
   have HG := hide (show goB (R.lastR ys (i - 1)) r = false by rw [hl]; exact he)
   have HN := hide (show ¬ (x.a = r.a /\ x.l = r.l /\ x.n = r.n) from fun ⟨h1, h2, h3⟩ => by simp [eqE, h1, h2, h3] at he)
   clear he hl
   go_wp2
   all_goals first
    | (exfalso; exact HN.out ⟨by assumption, by assumption, by assumption⟩)
    | (go_ret; exact ⟨(by repeat (first | exact Below.refl _ _ | refine below_drewN ?_ _ | refine Below.drew ?_ | refine Below.trans ?_ (Below.mono (by assumption) ?_) | refine Below.alloc ?_ ?_ _ | refine Below.setCell ?_ ?_ _ | omega | (simp; omega) | simp)), by rw [HG.out]; rfl⟩)
structure RgW (w : World) (p lp sp : Nat) (xs : List Ent) (ys : List R.Ent) (F1 F2 : List Nat) : Prop where
 blk : w.heap[p]? = some (.cells #[ptrV lp, ptrV sp] 176 (0, 0))
 lst : ListF w lp xs F1
 str : R.StoreF w sp ys F2
 d1 : p ∉ F1
 d2 : p ∉ F2
 d3 : ∀ k ∈ F1, k ∉ F2
theorem RgW.lt {w : World} {p lp sp : Nat} {xs : List Ent} {ys : List R.Ent} {F1 F2 : List Nat} (h : RgW w p lp sp xs ys F1 F2) : p < w.heap.size := (Array.getElem?_eq_some_iff.1 h.blk).1
theorem RgW.later {w w' : World} {p lp sp : Nat} {xs : List Ent} {ys : List R.Ent} {F1 F2 : List Nat} (h : RgW w p lp sp xs ys F1 F2) (hB : Below w.heap.size w w') : RgW w' p lp sp xs ys F1 F2 :=
 ⟨(hB.block p h.lt).trans h.blk, h.lst.later hB, h.str.later hB, h.d1, h.d2, h.d3⟩
theorem RgW.turned {w w' : World} {p lp sp : Nat} {xs : List Ent} {ys ys' : List R.Ent} {F1 F2 F2' : List Nat} (h : RgW w p lp sp xs ys F1 F2) (hS : R.StoreF w' sp ys' F2') (hN : NewF w F2 F2') (hO : Only F2 w w') : RgW w' p lp sp xs ys' F1 F2' := by
 have hl := h.lst.lt
 refine ⟨(hO.block p h.lt h.d2).trans h.blk, h.lst.kept fun k hk => hO.block k (hl k hk) (h.d3 k hk), hS, h.d1, fun hk => ?_, fun k hk hk' => ?_⟩
 ·rcases hN p hk with h1 | h1
  ·exact h.d2 h1
  ·have := h.lt; omega
 ·rcases hN k hk' with h1 | h1
  ·exact h.d3 k hk h1
  ·have := hl k hk; omega
theorem wid_top {a l : Int} (h : isPfx a l = true) : a + wid l <= 256 := by
 obtain ⟨h0, h8, ha0, ha1, hm⟩ := (isPfx_iff a l).1 h
 have hl : l = 0 ∨ l = 1 ∨ l = 2 ∨ l = 3 ∨ l = 4 ∨ l = 5 ∨ l = 6 ∨ l = 7 ∨ l = 8 := by omega
 rcases hl with rfl | rfl | rfl | rfl | rfl | rfl | rfl | rfl | rfl <;> simp only [wid] at hm ⊢ <;> simp at hm ⊢ <;> omega
def RdI (W0 wr : World) (p lp sp : Nat) (xs : List Ent) (ys : List R.Ent) (F1 F2 : List Nat) (i : Int) : Prop :=
 ∃ ys' F2', RgW wr p lp sp xs ys' F1 F2' /\ NewF W0 F2 F2' /\ Only F2 W0 wr /\ ∀ k, R.getR ys' k = if k < i then strR xs k else R.getR ys k
theorem RdI.later {W0 wr w1 : World} {p lp sp : Nat} {xs : List Ent} {ys : List R.Ent} {F1 F2 : List Nat} {i : Int} (h : RdI W0 wr p lp sp xs ys F1 F2 i) (hB : Below wr.heap.size wr w1) : RdI W0 w1 p lp sp xs ys F1 F2 i := by
 obtain ⟨ys', F2', h1, h2, h3, h4⟩ := h
 exact ⟨ys', F2', h1.later hB, h2, h3.trans (Only.of_below [] hB) (by simp), h4⟩
theorem RdI.next {W0 w1 w2 : World} {p lp sp : Nat} {xs : List Ent} {ys ys1 ys2 : List R.Ent} {F1 F2 Fa Fb : List Nat} {i : Int} (h1 : RgW w1 p lp sp xs ys1 F1 Fa) (h2 : NewF W0 F2 Fa) (h3 : Only F2 W0 w1) (h4 : ∀ k, R.getR ys1 k = if k < i then strR xs k else R.getR ys k)
  (hS : R.StoreF w2 sp ys2 Fb) (hN : NewF w1 Fa Fb) (hO : Only Fa w1 w2) (hg : ∀ k, R.getR ys2 k = if i = k then strR xs i else R.getR ys1 k) : RdI W0 w2 p lp sp xs ys F1 F2 (i + 1) := by
 refine ⟨ys2, Fb, h1.turned hS hN hO, h2.trans hN h3.size, h3.trans hO h2, fun k => ?_⟩
 rw [hg, h4]
 by_cases hk : i = k
 ·subst hk; rw [if_pos rfl, if_pos (by omega)]
 ·rw [if_neg hk]
  by_cases hk2 : k < i
  ·rw [if_pos hk2, if_pos (by omega)]
  ·rw [if_neg hk2, if_neg (by omega)]
theorem RdI.len {wr : World} {p lp sp : Nat} {xs : List Ent} {ys ys' : List R.Ent} {F1 F2' : List Nat} {i : Int} (hR : RgW wr p lp sp xs ys' F1 F2') (hg : ∀ k, R.getR ys' k = if k < i then strR xs k else R.getR ys k) (hy : ∀ k, k < 0 ∨ 256 <= k -> R.getR ys k = none) : ys'.length < 1000000 := by
 have hs := hR.str.sorted
 have := R_len (hi := 256) ys' 0 hs fun y hm => by
  have h1 := getR_mem hm
  rw [hg] at h1
  have h2 : ¬ (y.k < 0 ∨ 256 <= y.k) := fun hc => by
   rw [hy _ hc] at h1
   have : strR xs y.k = none := by rcases hc with hc | hc; exact strR_neg xs hc; exact strR_big xs hc
   rw [this] at h1
   split at h1 <;> cases h1
  omega
 omega
theorem RdI.goes {wr : World} {p lp sp : Nat} {xs : List Ent} {ys ys' : List R.Ent} {F1 F2' : List Nat} {i : Int} (hR : RgW wr p lp sp xs ys' F1 F2') (hg : ∀ k, R.getR ys' k = if k < i then strR xs k else R.getR ys k) (h0 : 0 <= i) (h1 : i < 256) :
  strR xs i = if goB (R.lastR ys' (i - 1)) (rt xs i) then none else some (rt xs i) := by
 by_cases hi : i = 0
 ·subst hi
  have : R.lastR ys' (0 - 1) = none := last_neg fun k hk => by rw [hg, if_pos (by omega), strR_neg xs (by omega)]
  rw [this, strR_zero]; rfl
 ·obtain ⟨m, rfl⟩ : ∃ m : Nat, i = (m : Int) + 1 := ⟨(i - 1).toNat, by omega⟩
  have := last_canon (xs := xs) hR.str.sorted m (by omega) (fun k hk => by rw [hg, if_pos (by omega)])
  rw [show (m : Int) + 1 - 1 = (m : Int) by omega, this, strR_in xs (by omega) h1, show (m : Int) + 1 - 1 = (m : Int) by omega]
  rfl
set_option maxHeartbeats 800000 in
theorem redraw_any (p lp sp : Nat) (xs : List Ent) (ys : List R.Ent) (F1 F2 : List Nat) (a l : Int) (w : World) (hR : RgW w p lp sp xs ys F1 F2) (hp : isPfx a l = true) (hlo : ∀ k, k < a -> R.getR ys k = strR xs k) (hy : ∀ k, k < 0 ∨ 256 <= k -> R.getR ys k = none) :
  Calls Tryz.prog 129 #[ptrV p, pfxV a l] w fun e w' => (∃ x, e = .returned x) /\ ∃ ys' F2', RgW w' p lp sp xs ys' F1 F2' /\ NewF w F2 F2' /\ Only F2 w w' /\ ∀ k, R.getR ys' k = if k <= a + wid l then strR xs k else R.getR ys k := by
 obtain ⟨l0, l8, a0, a1, _⟩ := (isPfx_iff a l).1 hp
 have htop := wid_top hp
 have hw0 := (wid_bd l).1
 have hB0 : Below w.heap.size w (w.alloc (.cells #[.int .i64 a, .int .i64 l] 65)) := (Below.refl _ w).alloc (Nat.le_refl _) _
 have hwF : w.heap.size ∉ F2 := fun h => by have := hR.str.lt _ h; omega
 have H0 : Hid (RdI (w.alloc (.cells #[.int .i64 a, .int .i64 l] 65)) (w.alloc (.cells #[.int .i64 a, .int .i64 l] 65)) p lp sp xs ys F1 F2 a) :=
  ⟨ys, F2, hR.later hB0, NewF.refl _ _, Only.refl _ _, fun k => by split; exact hlo k (by assumption); rfl⟩
 have Hy := hide hy
 have Hfin : Hid (∀ wr i, RdI (w.alloc (.cells #[.int .i64 a, .int .i64 l] 65)) wr p lp sp xs ys F1 F2 i -> (i = a + wid l + 1 ∨ (i = 256 /\ a + wid l = 256)) -> ∃ ys' F2', RgW wr p lp sp xs ys' F1 F2' /\ NewF w F2 F2' /\ Only F2 w wr /\ ∀ k, R.getR ys' k = if k <= a + wid l then strR xs k else R.getR ys k) := by
  rintro wr i ⟨ys', F2', h1, h2, h3, h4⟩ hi
  refine ⟨ys', F2', h1, fun k hk => (h2 k hk).imp id (fun h => by have := hB0.size; omega), (Only.of_below _ hB0).trans h3 (fun x hx => .inl hx), fun k => ?_⟩
  rw [h4]
  rcases hi with hi | ⟨hi, ht⟩
  ·subst hi
   by_cases hk : k <= a + wid l
   ·rw [if_pos hk, if_pos (by omega)]
   ·rw [if_neg hk, if_neg (by omega)]
  ·subst hi
   by_cases hk : k < 256
   ·rw [if_pos hk, if_pos (by omega)]
   ·rw [if_neg hk, hy k (by omega)]
    split
    ·rw [strR_big xs (by omega)]
    ·rfl
 clear hlo hy hR hB0
 go_enter Tryz.func129, Tryz.ntmps129
 go_wp2
 go_loopw [4] (fun sl wr => ∃ i : Int, a <= i /\ i <= 256 /\ i <= a + wid l + 1 /\ sl = .int .i64 i /\ Hid (RdI (w.alloc (.cells #[.int .i64 a, .int .i64 l] 65)) wr p lp sp xs ys F1 F2 i)) (fun s _ => (256 - intOf s).toNat)
 case atStart => exact ⟨a, by omega, by omega, by omega, rfl, H0⟩
 case round =>
  obtain ⟨i, hi0, hi1, hi2, rfl, HI⟩ := hrel
  obtain ⟨ys', F2', hR, hN, hO, hg⟩ := HI.out
  have b0 : wr.cell? ⟨w.heap.size, 0, none⟩ = some (.int .i64 a) := (hO.cell (by simp) hwF).trans (by simp [go_sem])
  have b1 : wr.cell? ⟨w.heap.size, 1, none⟩ = some (.int .i64 l) := (hO.cell (by simp) hwF).trans (by simp [go_sem])
  have hwl : w.heap.size < wr.heap.size := by have := hO.size; simp at this; omega
  have hpl := hR.lt
  have cp0 : wr.cell? ⟨p, 0, none⟩ = some (ptrV lp) := by simp [World.cell?, hR.blk]
  have cp1 : wr.cell? ⟨p, 1, none⟩ = some (ptrV sp) := by simp [World.cell?, hR.blk]
  have Hbe := hide (behind_any a l l0 l8 a0 a1 wr)
  by_cases hc : i <= a + wid l
  ·have HR := hide hR
   have HN := hide hN
   have HO := hide hO
   have Hg := hide hg
   clear hR hN hO hg
   have had := hide (isAddress_any i)
   by_cases hc2 : i < 256
   ·have hca : (decide (0 <= i) && decide (i < 256)) = true := by simp [hc2]; omega
    rw [hca] at had
    have h0i : 0 <= i := by omega
    have hgo := RdI.goes HR.out Hg.out h0i hc2
    have hlen := RdI.len HR.out Hg.out Hy.out
    have Hlen := hide hlen
    have hw1 : IntKind.i64.wrap (i + 1) = i + 1 := by rw [IntKind.wrap_i64]; omega
    clear hca hlen
    go_wp2_with fail
    refine Hbe.out.mono ?_
    rintro _ w1 ⟨rfl, hB1⟩
    go_wp2_with fail
    refine (had.out w1).mono ?_
    rintro _ w1' ⟨rfl, rfl⟩
    have hR1 := HR.out.later hB1
    have cq0 : w1'.cell? ⟨p, 0, none⟩ = some (ptrV lp) := by simp [World.cell?, hR1.blk]
    have hbs := hide (lstBest_any lp xs F1 i w1' hR1.lst h0i hc2)
    clear b0 b1 cp0 cp1 Hbe had hR1
    go_wp2_with fail
    refine hbs.out.mono ?_
    rintro _ w2 ⟨hB2, rfl⟩
    rw [rteO_rt]
    generalize hrt : rt xs i = r at *
    have Hrt := hide hrt
    clear hrt
    have hB3 : Below wr.heap.size wr (w2.alloc (.cells #[.int .i64 r.a, .int .i64 r.l, .int .i64 r.n] 90)) := (hB1.trans (hB2.mono hB1.size)).alloc (by have := hB1.size; have := hB2.size; omega) _
    have hR3 := HR.out.later hB3
    have hgn := hide (goesOn_any p lp sp ys' F2' i r _ hR3.blk hR3.str h0i hc2)
    clear hbs cq0 hR3
    go_wp2_with fail
    refine hgn.out.mono ?_
    rintro _ w4 ⟨hB4, rfl⟩
    have hB5 : Below wr.heap.size wr w4 := hB3.trans (hB4.mono hB3.size)
    have hR5 := HR.out.later hB5
    have hz5 : w2.heap.size < w4.heap.size := by have := hB4.size; simp at this; omega
    have k0 : w4.cell? ⟨w2.heap.size, 0, none⟩ = some (.int .i64 r.a) := (hB4.cell (p := ⟨w2.heap.size, 0, none⟩) (by simp)).trans (by simp [go_sem])
    have k1 : w4.cell? ⟨w2.heap.size, 1, none⟩ = some (.int .i64 r.l) := (hB4.cell (p := ⟨w2.heap.size, 1, none⟩) (by simp)).trans (by simp [go_sem])
    have k2 : w4.cell? ⟨w2.heap.size, 2, none⟩ = some (.int .i64 r.n) := (hB4.cell (p := ⟨w2.heap.size, 2, none⟩) (by simp)).trans (by simp [go_sem])
    have cq1 : w4.cell? ⟨p, 1, none⟩ = some (ptrV sp) := by simp [World.cell?, hR5.blk]
    have hp4 := hR5.lt
    have HR5 := hide hR5
    have HO5 := hide (show Only F2 _ w4 from HO.out.trans (Only.of_below [] hB5) (by simp))
    have hwF2 : w2.heap.size ∉ F2' := fun h => by have := HR.out.str.lt _ h; have := hB1.size; have := hB2.size; omega
    have hpF2 : p ∉ F2' := hR5.d2
    cases hgb : goB (R.lastR ys' (i - 1)) r with
    | true =>
     rw [hgb] at hgo
     simp only [if_true] at hgo
     have hrm := hide (R.remove_F sp ys' F2' i w4 hR5.str)
     have HGO := hide hgo
     clear hgb hgo hB1 hB2 hB3 hB4 hB5 hR5 hgn k0 k1 k2 hpF2 hwF2
     go_wp2_with fail
     refine hrm.out.mono ?_
     rintro _ w6 ⟨⟨F6, h61, h62⟩, h63, ⟨x, rfl⟩⟩
     have nxt := hide (RdI.next (i := i) HR5.out HN.out HO5.out Hg.out h61 h62 h63 (fun k => by rw [R.getR_del HR5.out.str.sorted, HGO.out]))
     clear h61 h62 h63 hrm
     go_wp2
     go_roundw
     case rel => exact ⟨i + 1, by omega, by omega, by omega, rfl, nxt.out⟩
     case measure => simp [intOf]; omega
    | false =>
     rw [hgb] at hgo
     simp only [Bool.false_eq_true, if_false] at hgo
     have hpt := hide (fun W (hW : Below w4.heap.size w4 W) => R.put_F sp ys' F2' i r W (hR5.str.later hW) Hlen.out)
     have HGO := hide hgo
     have hBd : Below w4.heap.size w4 w4.drew := (Below.refl _ w4).drew
     clear hgb hgo hB1 hB2 hB3 hB4 hB5 hR5 hgn
     go_wp2
     go_region_held3 (fun w' => w'.cell? ⟨p, 1, none⟩ = some (ptrV sp) /\ w'.cell? ⟨w2.heap.size, 0, none⟩ = some (.int .i64 r.a) /\ w'.cell? ⟨w2.heap.size, 1, none⟩ = some (.int .i64 r.l) /\ w'.cell? ⟨w2.heap.size, 2, none⟩ = some (.int .i64 r.n)) (go_keep)
      (first
       | (go_at_call 141; refine (hpt.out _ hBd).mono ?_; rintro _ w6 ⟨h6, h63, ⟨x, rfl⟩⟩; (have hc1 : ∀ o, w6.cell? ⟨p, o, none⟩ = w4.cell? ⟨p, o, none⟩ := fun o => h63.cell hp4 hpF2); (have hc2 : ∀ o, w6.cell? ⟨w2.heap.size, o, none⟩ = w4.cell? ⟨w2.heap.size, o, none⟩ := fun o => h63.cell hz5 hwF2)))
     obtain ⟨F6, h61, h62⟩ := h6
     have nxt := hide (RdI.next (i := i) HR5.out HN.out HO5.out Hg.out h61 h62 ((Only.of_below _ hBd).trans h63 (fun x hx => .inl hx)) (fun k => by rw [R.getR_put HR5.out.str.sorted, HGO.out]))
     clear h61 h62 h63 hpt hc1 hc2 k0 k1 k2
     go_wp2
     go_roundw
     case rel => exact ⟨i + 1, by omega, by omega, by omega, rfl, nxt.out⟩
     case measure => simp [intOf]; omega
   ·have hca : (decide (0 <= i) && decide (i < 256)) = false := by simp; omega
    rw [hca] at had
    have hie : i = 256 /\ a + wid l = 256 := ⟨by omega, by omega⟩
    have Hie := hide hie
    clear hie hc2 hca
    go_wp2_with fail
    refine Hbe.out.mono ?_
    rintro _ w1 ⟨rfl, hB1⟩
    have hfin := hide (Hfin.out w1 i (HI.out.later hB1) (.inr Hie.out))
    clear hB1
    go_wp2_with fail
    refine (had.out w1).mono ?_
    rintro _ w1' ⟨rfl, rfl⟩
    go_wp2
    go_end0
    exact ⟨⟨_, rfl⟩, hfin.out⟩
  ·have hd : decide (i <= a + wid l) = false := by simpa using hc
   have hie : i = a + wid l + 1 := by omega
   have Hie := hide hie
   clear hR hN hO hg hc hie
   go_wp2_with fail
   refine Hbe.out.mono ?_
   rintro _ w1 ⟨rfl, hB1⟩
   have hfin := hide (Hfin.out w1 i (HI.out.later hB1) (.inl Hie.out))
   clear hB1
   go_wp2
   go_end0
   exact ⟨⟨_, rfl⟩, hfin.out⟩
end Go.Proofs.YtglbamalagacgaaGreat

namespace Go.Proofs.YtglbamalagacgaaGreat
open Go.RowKit
def RangesF (w : World) (p : Nat) (xs : List Ent) (F : List Nat) : Prop := ∃ lp sp F1 F2, RgW w p lp sp xs (strL xs) F1 F2 /\ F = p :: (F1 ++ F2)
theorem RangesF.lt {w : World} {p : Nat} {xs : List Ent} {F : List Nat} (h : RangesF w p xs F) : ∀ k ∈ F, k < w.heap.size := by
 obtain ⟨lp, sp, F1, F2, h, rfl⟩ := h
 intro k hk
 rcases List.mem_cons.1 hk with rfl | hk
 ·exact h.lt
 ·rcases List.mem_append.1 hk with hk | hk
  ·exact h.lst.lt k hk
  ·exact h.str.lt k hk
theorem RangesF.cells {w : World} {p : Nat} {xs : List Ent} {F : List Nat} (h : RangesF w p xs F) : ∀ k ∈ F, ∃ o, w.heap[k]? = some o /\ o.isCells = true := by
 obtain ⟨lp, sp, F1, F2, h, rfl⟩ := h
 intro k hk
 rcases List.mem_cons.1 hk with rfl | hk
 ·exact ⟨_, h.blk, rfl⟩
 ·rcases List.mem_append.1 hk with hk | hk
  ·exact h.lst.cells k hk
  ·exact h.str.cells k hk
theorem RangesF.kept {w w' : World} {p : Nat} {xs : List Ent} {F : List Nat} (h : RangesF w p xs F) (hk : ∀ k ∈ F, w'.heap[k]? = w.heap[k]?) : RangesF w' p xs F := by
 obtain ⟨lp, sp, F1, F2, h, rfl⟩ := h
 exact ⟨lp, sp, F1, F2, ⟨(hk p (by simp)).trans h.blk, h.lst.kept fun k h1 => hk k (by simp [h1]), h.str.kept fun k h1 => hk k (by simp [h1]), h.d1, h.d2, h.d3⟩, rfl⟩
theorem RangesF.sorted {w : World} {p : Nat} {xs : List Ent} {F : List Nat} (h : RangesF w p xs F) : Sorted xs := by
 obtain ⟨lp, sp, F1, F2, h, rfl⟩ := h
 exact h.lst.sorted
theorem strL_sorted (xs : List Ent) : R.Sorted (strL xs) := strN_sorted xs 256
theorem strL_out (xs : List Ent) : ∀ k, k < 0 ∨ 256 <= k -> R.getR (strL xs) k = none := fun k hk => by
 rw [strL_get]
 rcases hk with hk | hk
 ·exact strR_neg xs hk
 ·exact strR_big xs hk
theorem RangesF.turned {w w1 w2 : World} {p lp sp : Nat} {xs xs' : List Ent} {F1 F1' F2 F2' : List Nat} {ys : List R.Ent} {a l : Int} (h : RgW w p lp sp xs (strL xs) F1 F2) (hN1 : NewF w F1 F1') (hO1 : Only F1 w w1)
  (hoff : ∀ b m, ¬ (b = a /\ m = l) -> getE xs' b m = getE xs b m) (hl0 : 0 <= l) (h2 : RgW w2 p lp sp xs' ys F1' F2') (hN2 : NewF w1 F2 F2') (hO2 : Only F2 w1 w2)
  (hg : ∀ k, R.getR ys k = if k <= a + wid l then strR xs' k else R.getR (strL xs) k) :
  (∃ F', RangesF w2 p xs' F' /\ NewF w (p :: (F1 ++ F2)) F') /\ Only (p :: (F1 ++ F2)) w w2 := by
 have hys : ys = strL xs' := strL_eq h2.str.sorted fun k => by
  rw [hg]
  split
  ·rfl
  ·rw [strL_get, strR_off (a := a) (l := l) hoff hl0 (by omega)]
 rw [hys] at h2
 refine ⟨⟨_, ⟨lp, sp, F1', F2', h2, rfl⟩, fun k hk => ?_⟩, ?_⟩
 ·rcases List.mem_cons.1 hk with rfl | hk
  ·simp
  ·rcases List.mem_append.1 hk with hk | hk
   ·rcases hN1 k hk with h3 | h3
    ·simp [h3]
    ·exact .inr h3
   ·rcases hN2 k hk with h3 | h3
    ·simp [h3]
    ·exact .inr (by have := hO1.size; omega)
 ·exact (hO1.mono (G := p :: (F1 ++ F2)) (fun x hx _ => by simp [hx])).trans hO2 (fun x hx => .inl (by simp [hx]))
theorem RgW.list {w w1 : World} {p lp sp : Nat} {xs xs' : List Ent} {F1 F1' F2 : List Nat} {ys : List R.Ent} (h : RgW w p lp sp xs ys F1 F2) (hL : ListF w1 lp xs' F1') (hN : NewF w F1 F1') (hO : Only F1 w w1) : RgW w1 p lp sp xs' ys F1' F2 := by
 have hs := h.str.lt
 refine ⟨(hO.block p h.lt h.d1).trans h.blk, hL, h.str.kept fun k hk => hO.block k (hs k hk) (fun h1 => h.d3 k h1 hk), fun hk => ?_, h.d2, fun k hk hk' => ?_⟩
 ·rcases hN p hk with h1 | h1
  ·exact h.d1 h1
  ·have := h.lt; omega
 ·rcases hN k hk with h1 | h1
  ·exact h.d3 k h1 hk'
  ·have := hs k hk'; omega
theorem put_off {xs : List Ent} {a l n : Int} (hs : Sorted xs) : ∀ b m, ¬ (b = a /\ m = l) -> getE (putE xs a l n) b m = getE xs b m := fun b m h => by
 rw [getE_put hs, if_neg (by omega)]
theorem del_off {xs : List Ent} {a l : Int} (hs : Sorted xs) : ∀ b m, ¬ (b = a /\ m = l) -> getE (delE xs a l) b m = getE xs b m := fun b m h => by
 rw [getE_del hs, if_neg (by omega)]
theorem getE_in {xs : List Ent} {a l n : Int} (h : getE xs a l = some n) : (⟨a, l, n⟩ : Ent) ∈ xs := by
 induction xs with
 | nil => cases h
 | cons x xs ih =>
  rw [getE] at h
  split at h
  ·rename_i he
   cases x
   simp only at he h
   cases h
   simp [he.1, he.2]
  ·simp [ih h]
set_option maxHeartbeats 400000 in
theorem rgsLay_any (p : Nat) (xs : List Ent) (F : List Nat) (a l n : Int) (w : World) (hR : RangesF w p xs F) (hk : ∀ x ∈ xs, okE x) (hp : isPfx a l = true) :
  Calls Tryz.prog 204 #[ptrV p, rteV a l n] w fun r w' => (∃ F', RangesF w' p (putE xs a l n) F' /\ NewF w F F') /\ Only F w w' /\ r = .returned (.int .i64 (orZ (getE xs a l))) := by
 have hs := hR.sorted
 obtain ⟨lp, sp, F1, F2, h, rfl⟩ := hR
 have hB1 : Below w.heap.size w (w.alloc (.cells #[.int .i64 a, .int .i64 l, .int .i64 n] 90)).drew := ((Below.refl _ w).alloc (Nat.le_refl _) _).drew
 have h1 := h.later hB1
 have c0 : w.cell? ⟨p, 0, none⟩ = some (ptrV lp) := by simp [World.cell?, h.blk]
 have hpl := h.lt
 have hpl1 : p < w.heap.size + 1 := by omega
 have hwF : w.heap.size ∉ F1 := fun hh => by have := h.lst.lt _ hh; omega
 have hpF := h.d1
 have hly := hide (lstLay_any lp xs F1 a l n _ h1.lst hk)
 have H := hide h
 have H1 := hide h1
 obtain ⟨l0, _⟩ := (isPfx_iff a l).1 hp
 clear h h1
 go_enter Tryz.func204, Tryz.ntmps204
 go_wp2
 go_region_held3 (fun w' => w'.cell? ⟨p, 0, none⟩ = some (ptrV lp) /\ w'.cell? ⟨w.heap.size, 0, none⟩ = some (.int .i64 a) /\ w'.cell? ⟨w.heap.size, 1, none⟩ = some (.int .i64 l) /\ w'.cell? ⟨w.heap.size, 2, none⟩ = some (.int .i64 n)) (go_keep)
  (first
   | (go_at_call 175; refine hly.out.mono ?_; rintro _ w2 ⟨hF2, hO2, rfl⟩; (have hc1 : ∀ o, w2.cell? ⟨p, o, none⟩ = (w.alloc (.cells #[.int .i64 a, .int .i64 l, .int .i64 n] 90)).drew.cell? ⟨p, o, none⟩ := fun o => hO2.cell (by simp; omega) hpF); (have hc2 : ∀ o, w2.cell? ⟨w.heap.size, o, none⟩ = (w.alloc (.cells #[.int .i64 a, .int .i64 l, .int .i64 n] 90)).drew.cell? ⟨w.heap.size, o, none⟩ := fun o => hO2.cell (by simp) hwF)))
 obtain ⟨F1', h21, h22⟩ := hF2
 have k0 : w2.cell? ⟨w.heap.size, 0, none⟩ = some (.int .i64 a) := (hc2 0).trans (by simp [go_sem])
 have k1 : w2.cell? ⟨w.heap.size, 1, none⟩ = some (.int .i64 l) := (hc2 1).trans (by simp [go_sem])
 have k2 : w2.cell? ⟨w.heap.size, 2, none⟩ = some (.int .i64 n) := (hc2 2).trans (by simp [go_sem])
 have hR2 := H1.out.list h21 h22 hO2
 have hN1 : NewF w F1 F1' := fun k hk => (h22 k hk).imp id (fun h => by have := hB1.size; omega)
 have hO1 : Only F1 w w2 := (Only.of_below _ hB1).trans hO2 (fun x hx => .inl hx)
 have HR2 := hide hR2
 have HN1 := hide hN1
 have HO1 := hide hO1
 clear hc1 hc2 h21 h22 hO2 hR2 hN1 hO1 hly H1 hB1
 have hof := hide (of_any a l n w2)
 go_wp2_with fail
 refine hof.out.mono ?_
 rintro _ w3 ⟨rfl, hB3⟩
 have hR3 := HR2.out.later hB3
 have hoff := put_off (a := a) (l := l) (n := n) hs
 have hrd := hide (redraw_any p lp sp (putE xs a l n) (strL xs) F1' F2 a l w3 hR3 hp (fun k hk => by rw [strL_get, strR_off hoff l0 (.inl hk)]) (strL_out xs))
 clear k0 k1 k2 hof hR3
 go_wp2_with fail
 refine hrd.out.mono ?_
 rintro _ w4 ⟨⟨x, rfl⟩, ys, F2', h41, h42, h43, h44⟩
 have fin := hide (RangesF.turned H.out HN1.out (HO1.out.trans (Only.of_below [] hB3) (by simp)) hoff l0 h41 h42 h43 h44)
 clear h41 h42 h43 h44 hrd hB3 hoff
 go_wp2
 go_ret
 exact ⟨fin.out.1, fin.out.2, rfl⟩
set_option maxHeartbeats 400000 in
theorem rgsTake_any (p : Nat) (xs : List Ent) (F : List Nat) (a l : Int) (w : World) (hR : RangesF w p xs F) (hp : isPfx a l = true) :
  Calls Tryz.prog 205 #[ptrV p, pfxV a l] w fun r w' => (∃ F', RangesF w' p (delE xs a l) F' /\ NewF w F F') /\ Only F w w' /\ r = .returned (.int .i64 (orZ (getE xs a l))) := by
 have hs := hR.sorted
 obtain ⟨lp, sp, F1, F2, h, rfl⟩ := hR
 have hB1 : Below w.heap.size w (w.alloc (.cells #[.int .i64 a, .int .i64 l] 65)).drew := ((Below.refl _ w).alloc (Nat.le_refl _) _).drew
 have h1 := h.later hB1
 have c0 : w.cell? ⟨p, 0, none⟩ = some (ptrV lp) := by simp [World.cell?, h.blk]
 have hpl := h.lt
 have hpl1 : p < w.heap.size + 1 := by omega
 have hwF : w.heap.size ∉ F1 := fun hh => by have := h.lst.lt _ hh; omega
 have hpF := h.d1
 have hly := hide (lstTake_any lp xs F1 a l _ h1.lst)
 have H := hide h
 have H1 := hide h1
 obtain ⟨l0, _⟩ := (isPfx_iff a l).1 hp
 clear h h1
 go_enter Tryz.func205, Tryz.ntmps205
 go_wp2
 go_region_held3 (fun w' => w'.cell? ⟨p, 0, none⟩ = some (ptrV lp) /\ w'.cell? ⟨w.heap.size, 0, none⟩ = some (.int .i64 a) /\ w'.cell? ⟨w.heap.size, 1, none⟩ = some (.int .i64 l)) (go_keep)
  (first
   | (go_at_call 176; refine hly.out.mono ?_; rintro _ w2 ⟨hF2, hO2, rfl⟩; (have hc1 : ∀ o, w2.cell? ⟨p, o, none⟩ = (w.alloc (.cells #[.int .i64 a, .int .i64 l] 65)).drew.cell? ⟨p, o, none⟩ := fun o => hO2.cell (by simp; omega) hpF); (have hc2 : ∀ o, w2.cell? ⟨w.heap.size, o, none⟩ = (w.alloc (.cells #[.int .i64 a, .int .i64 l] 65)).drew.cell? ⟨w.heap.size, o, none⟩ := fun o => hO2.cell (by simp) hwF)))
 obtain ⟨F1', h21, h22⟩ := hF2
 have k0 : w2.cell? ⟨w.heap.size, 0, none⟩ = some (.int .i64 a) := (hc2 0).trans (by simp [go_sem])
 have k1 : w2.cell? ⟨w.heap.size, 1, none⟩ = some (.int .i64 l) := (hc2 1).trans (by simp [go_sem])
 have hR2 := H1.out.list h21 h22 hO2
 have hN1 : NewF w F1 F1' := fun k hk => (h22 k hk).imp id (fun h => by have := hB1.size; omega)
 have hO1 : Only F1 w w2 := (Only.of_below _ hB1).trans hO2 (fun x hx => .inl hx)
 have hoff := del_off (a := a) (l := l) hs
 have hrd := hide (redraw_any p lp sp (delE xs a l) (strL xs) F1' F2 a l w2 hR2 hp (fun k hk => by rw [strL_get, strR_off hoff l0 (.inl hk)]) (strL_out xs))
 have HN1 := hide hN1
 have HO1 := hide hO1
 clear hc1 hc2 h21 h22 hO2 hR2 hN1 hO1 hly H1 hB1
 go_wp2_with fail
 refine hrd.out.mono ?_
 rintro _ w4 ⟨⟨x, rfl⟩, ys, F2', h41, h42, h43, h44⟩
 have fin := hide (RangesF.turned H.out HN1.out HO1.out hoff l0 h41 h42 h43 h44)
 clear h41 h42 h43 h44 hrd hoff
 go_wp2
 go_ret
 exact ⟨fin.out.1, fin.out.2, rfl⟩
set_option maxHeartbeats 400000 in
theorem rgsCells_any (p : Nat) (xs : List Ent) (F : List Nat) (w : World) (hR : RangesF w p xs F) (hk : ∀ x ∈ xs, okE x) :
  Calls Tryz.prog 202 #[ptrV p] w fun r w' => Below w.heap.size w w' /\ r = .returned (.int .i64 ((xs.length : Int) + ((strL xs).length : Int))) := by
 have hlen := ok_len hR.sorted hk
 have hlen2 := strN_len xs 256
 have hlen3 : (strL xs).length <= 256 := hlen2
 obtain ⟨lp, sp, F1, F2, h, rfl⟩ := hR
 have c0 : w.cell? ⟨p, 0, none⟩ = some (ptrV lp) := by simp [World.cell?, h.blk]
 have c1 : w.cell? ⟨p, 1, none⟩ = some (ptrV sp) := by simp [World.cell?, h.blk]
 have hpl := h.lt
 have hBd : Below w.heap.size w w.drew := (Below.refl _ w).drew
 have h1 := h.later hBd
 have hcl := hide (lstCells_any lp xs F1 w.drew h1.lst)
 have hln := hide (R.len_F sp (strL xs) F2 w.drew h1.str)
 clear h h1 hlen2
 generalize (strL xs).length = n2 at *
 generalize xs.length = n1 at *
 have hww : IntKind.i64.wrap ((n1 : Int) + (n2 : Int)) = (n1 : Int) + (n2 : Int) := by rw [IntKind.wrap_i64]; omega
 go_enter Tryz.func202, Tryz.ntmps202
 go_wp2
 go_region_held3 (fun w' => w' = w.drew) (go_keep)
  (first
   | (go_at_call 173; refine hcl.out.mono ?_; rintro _ w2 ⟨rfl, rfl⟩)
   | (go_at_call 206; refine hln.out.mono ?_; rintro _ w2 ⟨rfl, rfl⟩))
 go_wp2
 go_ret
 exact ⟨(by repeat (first | exact Below.refl _ _ | refine below_drewN ?_ _ | refine Below.drew ?_ | refine Below.trans ?_ (Below.mono (by assumption) ?_) | refine Below.alloc ?_ ?_ _ | refine Below.setCell ?_ ?_ _ | omega | (simp; omega) | simp)), rfl⟩
set_option maxHeartbeats 400000 in
theorem newRStore_any (w : World) :
  Calls Tryz.prog 127 #[R.cmpIV] w fun r w' => w' = w.alloc (.cells #[R.cmpIV, .slice none 0 0] 186) /\ r = .returned (ptrV w.heap.size) := by
 go_enter Tryz.func127, Tryz.ntmps127
 go_wp2
 go_ret
 exact ⟨rfl, rfl⟩
set_option maxHeartbeats 400000 in
theorem newRanges_any (w : World) :
  Calls Tryz.prog 96 #[] w fun r w' => Below w.heap.size w w' /\ ∃ p F, RangesF w' p [] F /\ (∀ k ∈ F, w.heap.size <= k) /\ r = .returned (ptrV p) := by
 have hnl := hide (newList_any w)
 go_enter Tryz.func96, Tryz.ntmps96
 go_wp2_with fail
 refine hnl.out.mono ?_
 rintro _ w1 ⟨hB1, lp, F1, hL1, hF1, rfl⟩
 have hns := hide (newRStore_any w1)
 go_wp2_with fail
 refine hns.out.mono ?_
 rintro _ w2 ⟨rfl, rfl⟩
 have hB2 : Below w1.heap.size w1 (w1.alloc (.cells #[R.cmpIV, .slice none 0 0] 186)) := (Below.refl _ w1).alloc (Nat.le_refl _) _
 have hB3 : Below w1.heap.size w1 ((w1.alloc (.cells #[R.cmpIV, .slice none 0 0] 186)).alloc (.cells #[ptrV lp, ptrV w1.heap.size] 176)) := hB2.alloc (by simp) _
 have hfs := hide (first_any ((w1.alloc (.cells #[R.cmpIV, .slice none 0 0] 186)).alloc (.cells #[ptrV lp, ptrV w1.heap.size] 176)))
 have hR3 : RgW ((w1.alloc (.cells #[R.cmpIV, .slice none 0 0] 186)).alloc (.cells #[ptrV lp, ptrV w1.heap.size] 176)) (w1.heap.size + 1) lp w1.heap.size [] [] F1 [w1.heap.size] := by
  refine ⟨?_, hL1.later hB3, ⟨.slice none 0 0, ⟨?_, .inl ⟨rfl, rfl⟩, by simp [Value.ownBlock], List.Pairwise.nil, by simp⟩, rfl⟩, ?_, by simp, ?_⟩
  ·have := World.alloc_heap_new (w1.alloc (.cells #[R.cmpIV, .slice none 0 0] 186)) (.cells #[ptrV lp, ptrV w1.heap.size] 176)
   rwa [World.size_alloc] at this
  ·exact (Below.heap_alloc _ _ _ (by simp)).trans (World.alloc_heap_new w1 _)
  ·intro hh; have := hL1.lt _ hh; omega
  ·intro k hk hk'; simp at hk'; have := hL1.lt k hk; omega
 have hlt := hL1.lt
 clear hnl hns
 go_wp2_with fail
 refine hfs.out.mono ?_
 rintro _ w4 ⟨rfl, hB4⟩
 have hR4 := hR3.later hB4
 have hrd := hide (redraw_any (w1.heap.size + 1) lp w1.heap.size [] [] F1 [w1.heap.size] 0 0 w4 hR4 (by simp [isPfx]) (fun k hk => by rw [strR_neg [] hk]; rfl) (fun k _ => rfl))
 have hB5 : Below w1.heap.size w1 w4 := hB3.trans (hB4.mono hB3.size)
 clear hR3 hR4 hfs hB4 hB3 hB2
 go_wp2_with fail
 refine hrd.out.mono ?_
 rintro _ w6 ⟨⟨x, rfl⟩, ys, F2', h61, h62, h63, h64⟩
 have hys : ys = strL [] := strL_eq h61.str.sorted fun k => by
  rw [h64]
  split
  ·rfl
  ·rename_i hk
   have : ¬ k <= 256 := hk
   rw [strR_big [] (by omega)]; rfl
 rw [hys] at h61
 have fin := hide (show Below w.heap.size w w6 /\ ∃ p F, RangesF w6 p [] F /\ (∀ k ∈ F, w.heap.size <= k) /\ Ending.returned (ptrV (w1.heap.size + 1)) = .returned (ptrV p) from by
  have hs1 := hB1.size
  have hs5 := hB5.size
  refine ⟨?_, w1.heap.size + 1, _, ⟨lp, w1.heap.size, F1, F2', h61, rfl⟩, ?_, rfl⟩
  ·have hB6 : Below w.heap.size w w4 := hB1.trans (hB5.mono hs1)
   have hO := (Only.of_below [] hB6)
   refine ⟨h63.os.trans hB6.os, h63.tape.trans hB6.tape, h63.output.trans hB6.output, Nat.le_trans hB6.size h63.size, fun k hk => (h63.block k (by have := hB6.size; omega) (by simp; omega)).trans (hB6.block k hk)⟩
  ·intro k hk
   rcases List.mem_cons.1 hk with rfl | hk
   ·omega
   ·rcases List.mem_append.1 hk with hk | hk
    ·exact hF1 k hk
    ·rcases h62 k hk with h1 | h1
     ·simp at h1; omega
     ·omega)
 clear h61 h62 h63 h64 hrd hB5 hys hL1 hF1 hB1 hlt
 go_wp2
 go_ret
 exact fin.out
end Go.Proofs.YtglbamalagacgaaGreat

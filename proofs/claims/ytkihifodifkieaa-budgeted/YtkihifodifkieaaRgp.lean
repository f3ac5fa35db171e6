import Derived.Test.YtkihifodifkieaaBst
namespace Go.Proofs.Ytkihifodifkieaa
open Go.RowKit

-- THE STRETCHES, as a function of the routes
def eqE (x y : Ent) : Bool := x.a == y.a && x.l == y.l && x.n == y.n
theorem eqE_iff (x y : Ent) : eqE x y = true ↔ x = y := by
  cases x; cases y
  simp [eqE, and_assoc]
def rt (xs : List Ent) (a : Int) : Ent := (bestE xs a).getD ⟨0, 0, 0⟩
def strB (xs : List Ent) (k : Int) : Bool := decide (0 ≤ k) && decide (k < 256) && (decide (k = 0) || !(eqE (rt xs (k - 1)) (rt xs k)))
def strR (xs : List Ent) (k : Int) : Option Ent := if strB xs k then some (rt xs k) else none

theorem rteO_rt (xs : List Ent) (a : Int) : R.rteO (bestE xs a) = rteV (rt xs a).a (rt xs a).l (rt xs a).n := by
  unfold rt
  cases bestE xs a <;> rfl

theorem last_get {ys : List R.Ent} {m : Int} {r : Ent} (hs : R.Sorted ys) (h : R.getR ys m = some r) : R.lastR ys m = some r := by
  induction ys with
  | nil => cases h
  | cons y ys ih =>
    obtain ⟨hs1, hs2⟩ := R.sorted_tail hs
    rw [R.getR] at h
    rw [R.lastR]
    split at h
    · rename_i he
      have : R.lastR ys m = none := R.lastR_none fun z hz => by have := hs2 z hz; omega
      rw [if_pos (by omega), this]
      exact h
    · rename_i he
      have hle : y.k ≤ m := by
        by_cases hc : y.k ≤ m
        · exact hc
        · have : R.getR ys m = none := R.getR_none fun z hz => by have := hs2 z hz; omega
          rw [this] at h; cases h
      rw [if_pos hle, ih hs1 h]
theorem last_step {ys : List R.Ent} {m : Int} (hs : R.Sorted ys) (h : R.getR ys (m + 1) = none) : R.lastR ys (m + 1) = R.lastR ys m := by
  induction ys with
  | nil => rfl
  | cons y ys ih =>
    obtain ⟨hs1, hs2⟩ := R.sorted_tail hs
    rw [R.getR] at h
    split at h
    · cases h
    · rename_i he
      rw [R.lastR, R.lastR, ih hs1 h]
      by_cases hc : y.k ≤ m
      · rw [if_pos (by omega), if_pos hc]
      · rw [if_neg (by omega), if_neg hc]
theorem last_neg {ys : List R.Ent} {m : Int} (h : ∀ k, k ≤ m → R.getR ys k = none) : R.lastR ys m = none := by
  cases ys with
  | nil => rfl
  | cons y ys =>
    rw [R.lastR]
    have : ¬ y.k ≤ m := fun hc => by
      have := h y.k hc
      rw [R.getR, if_pos rfl] at this; cases this
    rw [if_neg this]

theorem strR_zero (xs : List Ent) : strR xs 0 = some (rt xs 0) := by simp [strR, strB]
theorem strR_neg (xs : List Ent) {k : Int} (h : k < 0) : strR xs k = none := by
  have : strB xs k = false := by unfold strB; rw [decide_eq_false (by omega : ¬ 0 ≤ k)]; rfl
  simp [strR, this]
theorem strR_big (xs : List Ent) {k : Int} (h : 256 ≤ k) : strR xs k = none := by
  have : strB xs k = false := by unfold strB; rw [decide_eq_false (by omega : ¬ k < 256)]; simp
  simp [strR, this]
theorem strR_in (xs : List Ent) {k : Int} (h0 : 0 < k) (h : k < 256) : strR xs k = if eqE (rt xs (k - 1)) (rt xs k) then none else some (rt xs k) := by
  have : strB xs k = !(eqE (rt xs (k - 1)) (rt xs k)) := by
    unfold strB
    rw [decide_eq_true (by omega : 0 ≤ k), decide_eq_true h, decide_eq_false (by omega : ¬ k = 0)]; simp
  unfold strR
  rw [this]
  cases eqE (rt xs (k - 1)) (rt xs k) <;> rfl

theorem last_canon {ys : List R.Ent} {xs : List Ent} (hs : R.Sorted ys) : ∀ (m : Nat), m < 256 → (∀ k : Int, k ≤ m → R.getR ys k = strR xs k) → R.lastR ys m = some (rt xs m)
  | 0, _, h => last_get hs ((h 0 (by omega)).trans (strR_zero xs))
  | m + 1, hm, h => by
    have h1 := h ((m + 1 : Nat) : Int) (by omega)
    rw [strR_in xs (by omega) (by omega)] at h1
    have e : (((m + 1 : Nat) : Int) - 1) = (m : Int) := by omega
    rw [e] at h1
    cases he : eqE (rt xs (m : Int)) (rt xs ((m + 1 : Nat) : Int)) with
    | false => rw [he] at h1; exact last_get hs h1
    | true =>
      rw [he] at h1
      have ih := last_canon hs m (by omega) (fun k hk => h k (by omega))
      have h2 : R.getR ys ((m : Int) + 1) = none := h1
      have := last_step hs h2
      have e2 : ((m + 1 : Nat) : Int) = (m : Int) + 1 := by omega
      rw [e2] at he ⊢
      rw [this, ih, (eqE_iff _ _).1 he]

-- sorted entries are told by their keys
theorem R_ext {xs ys : List R.Ent} (hx : R.Sorted xs) (hy : R.Sorted ys) (h : ∀ k, R.getR xs k = R.getR ys k) : xs = ys := by
  induction xs generalizing ys with
  | nil =>
    cases ys with
    | nil => rfl
    | cons y ys => have := h y.k; rw [R.getR, R.getR, if_pos rfl] at this; cases this
  | cons x xs ih =>
    obtain ⟨hx1, hx2⟩ := R.sorted_tail hx
    cases ys with
    | nil => have := h x.k; simp [R.getR] at this
    | cons y ys =>
      obtain ⟨hy1, hy2⟩ := R.sorted_tail hy
      have hk : x.k = y.k := by
        rcases Int.lt_trichotomy x.k y.k with h1 | h1 | h1
        · have h2 := h x.k
          rw [R.getR, if_pos rfl, R.getR, if_neg (by omega), R.getR_none (fun z hz => by have := hy2 z hz; omega)] at h2
          cases h2
        · exact h1
        · have h2 := h y.k
          rw [R.getR, if_neg (by omega), R.getR, if_pos rfl, R.getR_none (fun z hz => by have := hx2 z hz; omega)] at h2
          cases h2
      have hv : x = y := by
        have h2 := h x.k
        rw [R.getR, if_pos rfl, R.getR, if_pos hk.symm] at h2
        cases x; cases y
        simp only [R.Ent.val, Option.some.injEq, Ent.mk.injEq] at h2
        simp_all
      subst hv
      congr 1
      refine ih hx1 hy1 fun k => ?_
      have h2 := h k
      rw [R.getR, R.getR] at h2
      by_cases hc : x.k = k
      · rw [R.getR_none (fun z hz => by have := hx2 z hz; omega), R.getR_none (fun z hz => by have := hy2 z hz; omega)]
      · rwa [if_neg hc, if_neg hc] at h2

-- the stretches, in their order
def strN (xs : List Ent) : Nat → List R.Ent
  | 0 => []
  | n + 1 => strN xs n ++ (match strR xs n with | some r => [R.mkE n r] | none => [])
def strL (xs : List Ent) : List R.Ent := strN xs 256
theorem strN_key (xs : List Ent) : ∀ n, ∀ y ∈ strN xs n, 0 ≤ y.k ∧ y.k < n
  | 0, y, hy => by simp [strN] at hy
  | n + 1, y, hy => by
    rw [strN, List.mem_append] at hy
    rcases hy with hy | hy
    · have := strN_key xs n y hy; omega
    · cases h : strR xs n with
      | none => rw [h] at hy; cases hy
      | some r => rw [h] at hy; simp at hy; subst hy; simp [R.mkE]; omega
theorem strN_sorted (xs : List Ent) : ∀ n, R.Sorted (strN xs n)
  | 0 => List.Pairwise.nil
  | n + 1 => by
    rw [strN]
    refine List.pairwise_append.2 ⟨strN_sorted xs n, ?_, fun x hx y hy => ?_⟩
    · cases strR xs n <;> simp
    · have := strN_key xs n x hx
      cases h : strR xs n with
      | none => rw [h] at hy; cases hy
      | some r => rw [h] at hy; simp at hy; subst hy; simp [R.mkE]; omega
theorem getR_append {xs ys : List R.Ent} {k : Int} (h : ∀ y ∈ xs, y.k ≠ k) : R.getR (xs ++ ys) k = R.getR ys k := by
  induction xs with
  | nil => rfl
  | cons x xs ih => rw [List.cons_append, R.getR, if_neg (h x (by simp)), ih fun y hy => h y (by simp [hy])]
theorem getR_append_left {xs ys : List R.Ent} {k : Int} (h : ∀ y ∈ ys, y.k ≠ k) : R.getR (xs ++ ys) k = R.getR xs k := by
  induction xs with
  | nil => exact R.getR_none h
  | cons x xs ih => rw [List.cons_append, R.getR, R.getR, ih]
theorem strN_get (xs : List Ent) : ∀ (n : Nat) (k : Int), R.getR (strN xs n) k = if k < n then strR xs k else none
  | 0, k => by
    rw [strN, R.getR]
    split
    · rename_i h; rw [strR_neg xs (by omega)]
    · rfl
  | n + 1, k => by
    rw [strN]
    by_cases hk : k = n
    · subst hk
      rw [getR_append (fun y hy => by have := strN_key xs n y hy; omega), if_pos (by omega)]
      cases strR xs n with
      | none => rfl
      | some r => simp [R.getR, R.mkE, R.Ent.val]
    · rw [getR_append_left (fun y hy => by
        cases h : strR xs n with
        | none => rw [h] at hy; cases hy
        | some r => rw [h] at hy; simp at hy; subst hy; simp [R.mkE]; omega), strN_get xs n k]
      by_cases h1 : k < n
      · rw [if_pos h1, if_pos (by omega)]
      · rw [if_neg h1, if_neg (by omega)]
theorem strL_get (xs : List Ent) (k : Int) : R.getR (strL xs) k = strR xs k := by
  rw [strL, strN_get]
  split
  · rfl
  · rename_i h; rw [strR_big xs (by omega)]
theorem strL_eq {ys : List R.Ent} {xs : List Ent} (hs : R.Sorted ys) (h : ∀ k, R.getR ys k = strR xs k) : ys = strL xs :=
  R_ext hs (strN_sorted xs 256) fun k => (h k).trans (strL_get xs k).symm
theorem strN_len (xs : List Ent) : ∀ n, (strN xs n).length ≤ n
  | 0 => Nat.le_refl _
  | n + 1 => by
    have := strN_len xs n
    rw [strN, List.length_append]
    cases strR xs n <;> simp <;> omega
theorem R_len {hi : Int} : ∀ (ys : List R.Ent) (lo : Int), R.Sorted ys → (∀ y ∈ ys, lo ≤ y.k ∧ y.k < hi) → ys.length ≤ (hi - lo).toNat := by
  intro ys
  induction ys with
  | nil => intros; simp
  | cons x xs ih =>
    intro lo hs hx
    obtain ⟨hs1, hs2⟩ := R.sorted_tail hs
    have h1 := hx x (by simp)
    have := ih (x.k + 1) hs1 fun y hy => by
      have h2 := hx y (by simp [hy])
      have h3 := hs2 y hy
      omega
    simp
    omega
theorem getR_mem {ys : List R.Ent} {y : R.Ent} (hy : y ∈ ys) : (R.getR ys y.k).isSome = true := by
  induction ys with
  | nil => cases hy
  | cons x xs ih =>
    rw [R.getR]
    split
    · rfl
    · rename_i h
      rcases List.mem_cons.1 hy with rfl | h1
      · exact absurd rfl h
      · exact ih h1

-- what lies outside a prefix does not ask for its route
theorem bestN_off {xs ys : List Ent} {a l k : Int} (h : ∀ b m, ¬ (b = a ∧ m = l) → getE xs b m = getE ys b m) (hl0 : 0 ≤ l) (hk : k < a ∨ a + wid l ≤ k) (hk0 : 0 ≤ k) : ∀ n, bestN xs k n = bestN ys k n
  | 0 => rfl
  | n + 1 => by
    have : ¬ (cov k n = a ∧ (n : Int) = l) := by
      rintro ⟨h1, h2⟩
      rw [h2] at h1
      have hw0 := (wid_bd l).1
      have hm := Int.emod_nonneg k (show wid l ≠ 0 by omega)
      have hm2 := Int.emod_lt_of_pos k hw0
      unfold cov at h1
      omega
    rw [bestN, bestN, h _ _ this, bestN_off h hl0 hk hk0 n]
theorem rt_off {xs ys : List Ent} {a l k : Int} (h : ∀ b m, ¬ (b = a ∧ m = l) → getE xs b m = getE ys b m) (hl0 : 0 ≤ l) (hk : k < a ∨ a + wid l ≤ k) (hk0 : 0 ≤ k) : rt xs k = rt ys k := by
  unfold rt bestE
  rw [bestN_off h hl0 hk hk0]
theorem strR_off {xs ys : List Ent} {a l k : Int} (h : ∀ b m, ¬ (b = a ∧ m = l) → getE xs b m = getE ys b m) (hl0 : 0 ≤ l) (hk : k < a ∨ a + wid l < k) : strR xs k = strR ys k := by
  by_cases h0 : 0 ≤ k
  · by_cases h1 : k = 0
    · subst h1
      rw [strR_zero, strR_zero, rt_off h hl0 (by omega) (by omega)]
    · by_cases h2 : k < 256
      · rw [strR_in xs (by omega) h2, strR_in ys (by omega) h2, rt_off h hl0 (by omega) (by omega), rt_off (k := k) h hl0 (by omega) (by omega)]
      · rw [strR_big xs (by omega), strR_big ys (by omega)]
  · rw [strR_neg xs (by omega), strR_neg ys (by omega)]

end Go.Proofs.Ytkihifodifkieaa

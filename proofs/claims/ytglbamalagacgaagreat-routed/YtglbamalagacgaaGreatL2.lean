import Derived.Test.YtglbamalagacgaaGreatA9
import Derived.Test.YtglbamalagacgaaGreatB1
import Derived.Test.YtglbamalagacgaaGreatL1
namespace Go.Proofs.YtglbamalagacgaaGreat
open Go.RowKit Go.Shelf
attribute [local go_sem] Oper.semAt_some
def ChgsAt (w : World) (v : Value) (cs : List Chg) : Prop := ∃ a cap, v = .slice a cs.length cap /\ cs.length <= maxLen /\ ∀ i x, cs[i]? = some x -> ∃ A, a = some A /\ A.block < w.heap.size ∧
 w.cell? (A.add (i * 3)) = some (.int .i64 x.a) /\ w.cell? ⟨(A.add (i * 3)).block, (A.add (i * 3)).off + 1, none⟩ = some (.int .i64 x.l) /\ w.cell? ⟨(A.add (i * 3)).block, (A.add (i * 3)).off + 2, none⟩ = some (.int .i64 x.n)
theorem addB (A : Addr) (n : Nat) : (A.add n).block = A.block := by unfold Addr.add; split <;> rfl
end Go.Proofs.YtglbamalagacgaaGreat

namespace Go.Proofs.YtglbamalagacgaaGreat
open Go.RowKit Go.Shelf
attribute [local go_sem] Oper.semAt_some
def tryX : List Chg -> List Ent -> Nat -> List Ent × Nat × Int
 | [], xs, i => (xs, i, 0)
 | x :: cs, xs, i => if isPfx x.a x.l = false then (xs, i, 2) else if x.n < 0 ∨ 255 < x.n then (xs, i, 3) else if x.n = 0 /\ getE xs x.a x.l = none then (xs, i, 5) else tryX cs (setE xs x.a x.l x.n) (i + 1)
theorem setE_sorted {xs : List Ent} {a l n : Int} (hs : Sorted xs) : Sorted (setE xs a l n) := by
 unfold setE
 split
 ·exact delE_sorted hs
 ·exact putE_sorted hs
theorem orZ_none {xs : List Ent} {a l : Int} (h : ∀ x ∈ xs, okE x) : orZ (getE xs a l) = 0 ↔ getE xs a l = none := by
 constructor
 ·intro h0
  cases hg : getE xs a l with
  | none => rfl
  | some n =>
   have := orZ_ok (a := a) (l := l) h (by rw [hg]; rfl)
   rw [h0] at this
   cases this
 ·intro h0; rw [h0]; rfl
theorem setE_ok {xs : List Ent} {a l n : Int} (h : ∀ x ∈ xs, okE x) (hp : isPfx a l = true) (hn : n = 0 ∨ (1 <= n /\ n <= 255)) : ∀ x ∈ setE xs a l n, okE x := by
 intro x hx
 unfold setE at hx
 split at hx
 ·exact h x (delE_mem hx)
 ·rcases putE_mem hx with rfl | hx
  ·exact ⟨hp, by rcases hn with h0 | h0; exact absurd h0 (by assumption); exact h0⟩
  ·exact h x hx
def Apart (v : Value) (F : List Nat) : Prop := ∀ A n cap, v = .slice (some A) n cap -> 0 < n -> A.block ∉ F
theorem ChgsAt.later {w w' : World} {v : Value} {cs : List Chg} (h : ChgsAt w v cs) (hB : Below w.heap.size w w') : ChgsAt w' v cs := by
 obtain ⟨a, cap, h1, h2, h3⟩ := h
 refine ⟨a, cap, h1, h2, fun i x hx => ?_⟩
 obtain ⟨A, h4, h5, h6, h7, h8⟩ := h3 i x hx
 exact ⟨A, h4, by have := hB.size; omega, (hB.cell (p := A.add (i * 3)) (by simpa [addB] using h5)).trans h6,
  (hB.cell (p := ⟨(A.add (i * 3)).block, (A.add (i * 3)).off + 1, none⟩) (by simpa [addB] using h5)).trans h7, (hB.cell (p := ⟨(A.add (i * 3)).block, (A.add (i * 3)).off + 2, none⟩) (by simpa [addB] using h5)).trans h8⟩
end Go.Proofs.YtglbamalagacgaaGreat

namespace Go.Proofs.YtglbamalagacgaaGreat
open Go.RowKit
def blN (xs : List Ent) (a : Int) : Nat -> Option Nat
 | 0 => none
 | n + 1 => if (getE xs (cov a n) n).isSome then some n else blN xs a n
theorem best_bl (xs : List Ent) (a : Int) : ∀ n, bestN xs a n = (blN xs a n).map fun j => ⟨cov a j, j, orZ (getE xs (cov a j) j)⟩
 | 0 => rfl
 | n + 1 => by
  rw [bestN, blN]
  cases hg : getE xs (cov a n) n with
  | none => simp [best_bl xs a n]
  | some k => simp [hg, orZ]
theorem blN_get {xs : List Ent} {a : Int} {j : Nat} : ∀ n, blN xs a n = some j -> (getE xs (cov a j) j).isSome = true /\ j < n
 | 0, h => by cases h
 | n + 1, h => by
  rw [blN] at h
  split at h
  ·rename_i hs; cases h; exact ⟨hs, by omega⟩
  ·have := blN_get n h; exact ⟨this.1, by omega⟩
def sameR (xs : List Ent) (i j : Int) : Prop := blN xs i 9 = blN xs j 9 /\ ∀ m, blN xs i 9 = some m -> cov i m = cov j m
theorem rt_same {xs : List Ent} (hk : ∀ x ∈ xs, okE x) (i j : Int) : rt xs i = rt xs j ↔ sameR xs i j := by
 unfold rt bestE sameR
 rw [best_bl, best_bl]
 have hpos : ∀ (a : Int) (m : Nat), blN xs a 9 = some m -> orZ (getE xs (cov a m) m) ≠ 0 := fun a m h => by
  have h1 := (blN_get 9 h).1
  cases hg : getE xs (cov a m) m with
  | none => rw [hg] at h1; cases h1
  | some k =>
   have : 1 <= k := (hk _ (getE_in hg)).2.1
   intro e
   have : k = 0 := e
   omega
 cases h1 : blN xs i 9 with
 | none =>
  cases h2 : blN xs j 9 with
  | none => simp
  | some n =>
   have := hpos j n h2
   simp
   intro _ _ e
   exact this e.symm
 | some m =>
  cases h2 : blN xs j 9 with
  | none =>
   have := hpos i m h1
   simp
   intro _ _ e
   exact this e
  | some n =>
   simp
   constructor
   ·rintro ⟨e1, e2, _⟩; exact ⟨by omega, e1 ▸ (by rw [show n = m by omega])⟩
   ·rintro ⟨rfl, e⟩; exact ⟨e, rfl, by rw [e]⟩
theorem isSome_mem {xs : List Ent} (hs : Sorted xs) (b m : Int) : (getE xs b m).isSome = true ↔ ∃ x ∈ xs, x.a = b /\ x.l = m := by
 constructor
 ·intro h
  cases hg : getE xs b m with
  | none => rw [hg] at h; cases h
  | some k => exact ⟨_, getE_in hg, rfl, rfl⟩
 ·rintro ⟨x, hx, rfl, rfl⟩; rw [getE_of hs hx]; rfl
end Go.Proofs.YtglbamalagacgaaGreat

namespace Go.Proofs.YtglbamalagacgaaGreat
theorem getE_setE {xs : List Ent} {a l n : Int} (hs : Sorted xs) (b m : Int) : getE (setE xs a l n) b m = if a = b /\ l = m then (if n = 0 then none else some n) else getE xs b m := by
 unfold setE
 by_cases h : n = 0
 ·rw [if_pos h, getE_del hs, if_pos h]
 ·rw [if_neg h, getE_put hs, if_neg h]
theorem getE_mem {xs : List Ent} {a l v : Int} (h : getE xs a l = some v) : ∃ y ∈ xs, y.a = a /\ y.l = l /\ y.n = v := by
 induction xs with
 | nil => cases h
 | cons x xs ih =>
  rw [getE] at h
  split at h
  ·rename_i he
   cases h
   exact ⟨x, by simp, he.1, he.2, rfl⟩
  ·obtain ⟨y, h1, h2⟩ := ih h
   exact ⟨y, by simp [h1], h2⟩
theorem sorted_ext : ∀ {xs ys : List Ent}, Sorted xs -> Sorted ys -> (∀ a l, getE xs a l = getE ys a l) -> xs = ys
 | [], [], _, _, _ => rfl
 | [], y :: ys, _, _, h => by
  have := h y.a y.l
  simp [getE] at this
 | x :: xs, [], _, _, h => by
  have := h x.a x.l
  simp [getE] at this
 | x :: xs, y :: ys, hx, hy, h => by
  obtain ⟨hx1, hx2⟩ := sorted_tail hx
  obtain ⟨hy1, hy2⟩ := sorted_tail hy
  have kx := h x.a x.l
  have ky := h y.a y.l
  have hk : y.a = x.a /\ y.l = x.l := by
   by_cases he : y.a = x.a /\ y.l = x.l
   ·exact he
   exfalso
   rw [getE, if_pos ⟨rfl, rfl⟩, getE, if_neg he] at kx
   rw [getE, if_neg (fun h => he ⟨h.1.symm, h.2.symm⟩), getE, if_pos ⟨rfl, rfl⟩] at ky
   obtain ⟨z, hz, z1, z2, _⟩ := getE_mem kx.symm
   obtain ⟨u, hu, u1, u2, _⟩ := getE_mem ky
   have c1 := hy2 z hz
   have c2 := hx2 u hu
   unfold klt at c1 c2
   omega
  have hn : x.n = y.n := by
   rw [getE, if_pos ⟨rfl, rfl⟩, getE, if_pos hk] at kx
   exact Option.some.inj kx
  have hxy : x = y := by
   cases x; cases y
   simp only at hk hn
   simp [hk, hn]
  subst hxy
  congr 1
  refine sorted_ext hx1 hy1 fun a l => ?_
  have hal := h a l
  rw [getE, getE] at hal
  by_cases he : x.a = a /\ x.l = l
  ·rw [getE_none fun y hy' hh => by have := hx2 y hy'; unfold klt at this; omega, getE_none fun y hy' hh => by have := hy2 y hy'; unfold klt at this; omega]
  ·rwa [if_neg he, if_neg he] at hal
theorem setE_back {xs : List Ent} {a l n : Int} (hs : Sorted xs) (ho : ∀ x ∈ xs, okE x) : setE (setE xs a l n) a l (orZ (getE xs a l)) = xs := by
 refine sorted_ext (setE_sorted (setE_sorted hs)) hs fun b m => ?_
 rw [getE_setE (setE_sorted hs), getE_setE hs]
 by_cases he : a = b /\ l = m
 ·obtain ⟨rfl, rfl⟩ := he
  simp only [and_self, if_true]
  cases hg : getE xs a l with
  | none => rfl
  | some v =>
   have hv := orZ_ok (a := a) (l := l) ho (by rw [hg]; rfl)
   rw [hg] at hv
   have hv' : ¬ v = 0 := by simpa [orZ] using hv
   simp [orZ, hv']
 ·rw [if_neg he, if_neg he]
theorem back_push {xs x0 : List Ent} {us : List Ud} {a l n : Int} (hs : Sorted xs) (ho : ∀ x ∈ xs, okE x) (h : back xs us = x0) : back (setE xs a l n) (us ++ [⟨a, l, orZ (getE xs a l)⟩]) = x0 := by
 rw [back_snoc, setE_back hs ho, h]
end Go.Proofs.YtglbamalagacgaaGreat

import Derived.Test.YtglbamalagacgaaGreatA9
import Derived.Deep.OwnRows
namespace Go.Proofs.YtglbamalagacgaaGreat
open Go.RowKit Go.Shelf
attribute [local go_sem] Oper.semAt_some
theorem isPfx_no {a l : Int} (h : ¬ (0 <= l /\ l <= 8 /\ 0 <= a /\ a < 256)) : isPfx a l = false := by
 rw [Bool.eq_false_iff]
 intro h1
 have := (isPfx_iff _ _).1 h1
 exact h ⟨this.1, this.2.1, this.2.2.1, this.2.2.2.1⟩
end Go.Proofs.YtglbamalagacgaaGreat

namespace Go.Proofs.YtglbamalagacgaaGreat
open Go.RowKit Go.Shelf
attribute [local go_sem] Oper.semAt_some
structure Chg where
 a : Int
 l : Int
 n : Int
structure TabC where
 S : Type
 T : World -> Nat -> S -> List Nat -> Prop
 xs : S -> List Ent
 bud : S -> Int
 act : S -> Int
 tgt : S -> Int
 lgd : S -> Int
 log : S -> Int × Int
 cnt : S -> Nat
 lt : ∀ {w t s F}, T w t s F -> ∀ k ∈ F, k < w.heap.size
 kept : ∀ {w w' t s F}, T w t s F -> (∀ k ∈ F, w'.heap[k]? = w.heap[k]?) -> T w' t s F
 sorted : ∀ {w t s F}, T w t s F -> Sorted (xs s)
 ok : ∀ {w t s F}, T w t s F -> ∀ x ∈ xs s, okE x
 nums : ∀ {w t s F}, T w t s F -> 0 <= act s /\ act s <= 100000 /\ 0 <= tgt s /\ tgt s <= 100000 /\ 0 <= lgd s /\ lgd s <= (log s).1 /\ (log s).1 <= 16 /\ 1 <= bud s /\ bud s <= 400
def delR (c : TabC) (a l : Int) (s : c.S) (e : Int) (s' : c.S) : Prop :=
 (isPfx a l = false /\ e = 2 /\ s = s') ∨ (isPfx a l = true /\ getE (c.xs s) a l = none /\ e = 5 /\ s = s') ∨
 (isPfx a l = true /\ (getE (c.xs s) a l).isSome = true /\ c.xs s' = setE (c.xs s) a l 0 /\ c.bud s' = c.bud s /\ c.fits s s' /\ e = 0)
structure Cfg where
 e : Int
 b : Int
 c : Int
 l : Int
def upd (rs : Nat -> Int) (k : Nat) (n : Int) : Nat -> Int := fun j => if j = k then n else rs j
end Go.Proofs.YtglbamalagacgaaGreat

namespace Go.Proofs.YtglbamalagacgaaGreat
open Go.RowKit Go.Shelf
attribute [local go_sem] Oper.semAt_some
end Go.Proofs.YtglbamalagacgaaGreat

namespace Go.Proofs.YtglbamalagacgaaGreat
open Go.RowKit Go.Shelf
attribute [local go_sem] Oper.semAt_some
theorem orZ_ok {xs : List Ent} {a l : Int} (h : ∀ x ∈ xs, okE x) (hs : (getE xs a l).isSome = true) : (orZ (getE xs a l) == 0) = false := by
 induction xs with
 | nil => simp [getE] at hs
 | cons x xs ih =>
  rw [getE] at hs ⊢
  split
  ·have := (h x (by simp)).2
   simp [orZ]
   omega
  ·rename_i hne
   rw [if_neg hne] at hs
   exact ih (fun y hy => h y (by simp [hy])) hs
end Go.Proofs.YtglbamalagacgaaGreat

import Derived.Test.YtglbamalagacgaaGreatA9
import Derived.Deep.OwnRows
namespace Go.Proofs.YtglbamalagacgaaGreat
open Go.RowKit Go.Shelf
attribute [local go_sem] Oper.semAt_some
theorem isPfx_no {a l : Int} (h : ¬ (0 <= l /\ l <= 8 /\ 0 <= a /\ a < 256)) : isPfx a l = false := by
 rw [Bool.eq_false_iff]
 intro h1
 have := (isPfx_iff _ _).1 h1
 exact h ⟨this.1, this.2.1, this.2.2.1, this.2.2.2.1⟩
end Go.Proofs.YtglbamalagacgaaGreat

namespace Go.Proofs.YtglbamalagacgaaGreat
open Go.RowKit Go.Shelf
attribute [local go_sem] Oper.semAt_some
structure Chg where
 a : Int
 l : Int
 n : Int
structure TabC where
 S : Type
 T : World -> Nat -> S -> List Nat -> Prop
 xs : S -> List Ent
 bud : S -> Int
 act : S -> Int
 tgt : S -> Int
 lgd : S -> Int
 log : S -> Int × Int
 cnt : S -> Nat
 lt : ∀ {w t s F}, T w t s F -> ∀ k ∈ F, k < w.heap.size
 kept : ∀ {w w' t s F}, T w t s F -> (∀ k ∈ F, w'.heap[k]? = w.heap[k]?) -> T w' t s F
 sorted : ∀ {w t s F}, T w t s F -> Sorted (xs s)
 ok : ∀ {w t s F}, T w t s F -> ∀ x ∈ xs s, okE x
 nums : ∀ {w t s F}, T w t s F -> 0 <= act s /\ act s <= 100000 /\ 0 <= tgt s /\ tgt s <= 100000 /\ 0 <= lgd s /\ lgd s <= (log s).1 /\ (log s).1 <= 16 /\ 1 <= bud s /\ bud s <= 400
def TabC.use (c : TabC) (s : c.S) : Int := c.act s + c.tgt s + c.lgd s
def TabC.fits (c : TabC) (s s' : c.S) : Prop := (c.use s' <= c.use s ∨ c.use s' <= c.bud s') /\ c.cnt s' <= c.cnt s + 1
def delR (c : TabC) (a l : Int) (s : c.S) (e : Int) (s' : c.S) : Prop :=
 (isPfx a l = false /\ e = 2 /\ s = s') ∨ (isPfx a l = true /\ getE (c.xs s) a l = none /\ e = 5 /\ s = s') ∨
 (isPfx a l = true /\ (getE (c.xs s) a l).isSome = true /\ c.xs s' = setE (c.xs s) a l 0 /\ c.bud s' = c.bud s /\ c.fits s s' /\ e = 0)
structure Cfg where
 e : Int
 b : Int
 c : Int
 l : Int
def RowR (w : World) (g : Nat) (rs : Nat -> Int) : Prop := ∃ cs, w.heap[g]? = some (.cells cs 3 (0, 0)) /\ cs.size = 2304 /\ ∀ k, k < 2304 -> cs[k]? = some (.int .i64 (rs k))
structure BookF (w : World) (bk g t : Nat) (cf : Cfg) (rs : Nat -> Int) : Prop where
 blk : w.heap[bk]? = some (.cells #[.int .i64 cf.e, .int .i64 cf.b, .int .i64 cf.c, .int .i64 cf.l, ptrV t, .slice (some ⟨g, 0, none⟩) 2304 2304] 43 (0, 0))
 row : RowR w g rs
 ne : bk ≠ g
structure Tie (rs : Nat -> Int) (xs : List Ent) : Prop where
 val : ∀ a l, isPfx a l = true -> rs (9 * a + l).toNat = orZ (getE xs a l)
 z : ∀ k, (∀ a l, isPfx a l = true -> (9 * a + l).toNat ≠ k) -> rs k = 0
structure Law (c : TabC) (w : World) (bk g t : Nat) (cf : Cfg) (rs : Nat -> Int) (s : c.S) (F : List Nat) : Prop where
 book : BookF w bk g t cf rs
 tab : c.T w t s F
 n1 : bk ∉ F
 n2 : g ∉ F
 tie : Tie rs (c.xs s)
 lg : c.log s = (cf.l, cf.c)
def upd (rs : Nat -> Int) (k : Nat) (n : Int) : Nat -> Int := fun j => if j = k then n else rs j
theorem RowR.put {w : World} {g : Nat} {rs : Nat -> Int} (h : RowR w g rs) (k : Nat) (n : Int) : RowR (w.setCell ⟨g, k, none⟩ (.int .i64 n)) g (upd rs k n) := by
 obtain ⟨cs, h3, h4, h5⟩ := h
 have hg := (Array.getElem?_eq_some_iff.1 h3).1
 refine ⟨cs.setIfInBounds k (.int .i64 n), ?_, by simpa using h4, fun j hj => ?_⟩
 ·have hg3 : w.heap[g]? = some w.heap[g] := Array.getElem?_eq_some_iff.2 ⟨hg, rfl⟩
  rw [hg3] at h3
  simp only [World.setCell, Array.getElem?_modify, if_true, hg3, Option.map_some, Option.some.inj h3]
  rfl
 ·unfold upd
  rw [Array.getElem?_setIfInBounds]
  by_cases hjk : j = k
  ·subst hjk; simp [h4, hj]
  ·rw [if_neg (by omega), if_neg hjk]; exact h5 j hj
theorem BookF.put {w : World} {bk g t : Nat} {cf : Cfg} {rs : Nat -> Int} (h : BookF w bk g t cf rs) (k : Nat) (n : Int) : BookF (w.setCell ⟨g, k, none⟩ (.int .i64 n)) bk g t cf (upd rs k n) :=
 ⟨(Below.heap_setCell _ _ _ _ h.ne).trans h.blk, h.row.put k n, h.ne⟩
theorem rank_inj {a l b m : Int} (h : isPfx a l = true) (k : isPfx b m = true) (he : (9 * a + l).toNat = (9 * b + m).toNat) : a = b /\ l = m := by
 have h1 := (isPfx_iff _ _).1 h
 have h2 := (isPfx_iff _ _).1 k
 omega
theorem getE_set {xs : List Ent} {a l n : Int} (hs : Sorted xs) (b m : Int) : orZ (getE (setE xs a l n) b m) = if a = b /\ l = m then n else orZ (getE xs b m) := by
 unfold setE
 split
 ·rename_i h
  rw [getE_del hs]
  split
  ·simp [orZ, h]
  ·rfl
 ·rw [getE_put hs]
  split
  ·simp [orZ]
  ·rfl
theorem Tie.put {rs : Nat -> Int} {xs : List Ent} (h : Tie rs xs) (hs : Sorted xs) {a l n : Int} (hp : isPfx a l = true) : Tie (upd rs (9 * a + l).toNat n) (setE xs a l n) := by
 refine ⟨fun b m hb => ?_, fun k hk => ?_⟩
 ·rw [getE_set hs]
  unfold upd
  by_cases he : a = b /\ l = m
  ·rw [if_pos (by rw [he.1, he.2]), if_pos he]
  ·rw [if_neg (fun h1 => he (rank_inj hp hb h1.symm)), if_neg he]
   exact h.val b m hb
 ·unfold upd
  rw [if_neg (fun h1 => hk a l hp h1.symm)]
  exact h.z k hk
def LawPost (c : TabC) (bk g t : Nat) (cf : Cfg) (s : c.S) (F : List Nat) (w : World) (r : Ending) (w' : World) : Prop :=
 r = .returned (.bool true) /\ ∃ g' rs' s' F', Law c w' bk g' t cf rs' s' F' /\ c.fits s s' /\ Only (bk :: g :: F) w w' /\ NewF w (bk :: g :: F) (bk :: g' :: F')
end Go.Proofs.YtglbamalagacgaaGreat

namespace Go.Proofs.YtglbamalagacgaaGreat
open Go.RowKit Go.Shelf
attribute [local go_sem] Oper.semAt_some
end Go.Proofs.YtglbamalagacgaaGreat

namespace Go.Proofs.YtglbamalagacgaaGreat
open Go.RowKit Go.Shelf
attribute [local go_sem] Oper.semAt_some
theorem orZ_ok {xs : List Ent} {a l : Int} (h : ∀ x ∈ xs, okE x) (hs : (getE xs a l).isSome = true) : (orZ (getE xs a l) == 0) = false := by
 induction xs with
 | nil => simp [getE] at hs
 | cons x xs ih =>
  rw [getE] at hs ⊢
  split
  ·have := (h x (by simp)).2
   simp [orZ]
   omega
  ·rename_i hne
   rw [if_neg hne] at hs
   exact ih (fun y hy => h y (by simp [hy])) hs
end Go.Proofs.YtglbamalagacgaaGreat

import Derived.Test.YtglbamalagacgaaGreatE2
import Derived.Test.YtglbamalagacgaaGreatF0
import Derived.BigQuiet
namespace Go.Proofs.YtglbamalagacgaaGreat
open Go.RowKit Go.Shelf
abbrev rkE (x : Ent) : Nat := (9 * x.a + x.l).toNat
def frR (xs : List Ent) (k : Nat) : List Ent := xs.filter fun x => decide (k <= rkE x)
theorem from_fr {xs : List Ent} {a l : Int} (hk : ∀ x ∈ xs, okE x) (hp : isPfx a l = true) : fromE xs a l = frR xs (9 * a + l).toNat := by
 unfold fromE frR
 refine List.filter_congr fun x hx => ?_
 have q1 := (isPfx_iff _ _).1 (hk x hx).1
 have q2 := (isPfx_iff _ _).1 hp
 unfold klt rkE
 rw [<- decide_not]
 refine decide_eq_decide.2 ?_
 omega
theorem Tie.at {rs : Nat -> Int} {xs : List Ent} (ht : Tie rs xs) {k : Nat} (h : rs k ≠ 0) : ∃ x ∈ xs, rkE x = k := by
 obtain ⟨a, l, hp, he⟩ : ∃ a l, isPfx a l = true /\ (9 * a + l).toNat = k := by
  by_cases h1 : ∃ a l, isPfx a l = true /\ (9 * a + l).toNat = k
  ·exact h1
  ·exact absurd (ht.z k fun a l hp he => h1 ⟨a, l, hp, he⟩) h
 rw [<- he, ht.val a l hp] at h
 cases hg : getE xs a l with
 | none => rw [hg] at h; exact absurd rfl h
 | some v =>
  obtain ⟨y, hy, e1, e2, _⟩ := getE_memS hg
  exact ⟨y, hy, by unfold rkE; rw [e1, e2]; exact he⟩
theorem frR_skip {xs : List Ent} {k j : Nat} (hkj : k <= j) (h : ∀ x ∈ xs, ¬ (k <= rkE x /\ rkE x < j)) : frR xs j = frR xs k := by
 unfold frR
 refine List.filter_congr fun x hx => decide_eq_decide.2 ?_
 have := h x hx
 omega
theorem frR_pw {xs : List Ent} (hs : Sorted xs) (hk : ∀ x ∈ xs, okE x) (k : Nat) : (frR xs k).Pairwise fun x y => rkE x < rkE y := by
 have := ranks_lt hs hk
 unfold ranks at this
 rw [List.pairwise_map] at this
 exact List.Pairwise.filter _ this
end Go.Proofs.YtglbamalagacgaaGreat

namespace Go.Proofs.YtglbamalagacgaaGreat
open Go.RowKit Go.Shelf
attribute [local go_sem] Oper.semAt_some
end Go.Proofs.YtglbamalagacgaaGreat

namespace Go.Proofs.YtglbamalagacgaaGreat
open Go.RowKit Go.Shelf
theorem rteC_at {ys : List Ent} {j : Nat} {x : Ent} (h : ys[j]? = some x) : (rteC ys)[j * 3]? = some (.int .i64 x.a) /\ (rteC ys)[j * 3 + 1]? = some (.int .i64 x.l) /\ (rteC ys)[j * 3 + 2]? = some (.int .i64 x.n) := by
 induction ys generalizing j with
 | nil => simp at h
 | cons y ys ih =>
  have e : rteC (y :: ys) = .int .i64 y.a :: .int .i64 y.l :: .int .i64 y.n :: rteC ys := by simp [rteC, rcell]
  rw [e]
  cases j with
  | zero => simp at h; subst h; simp
  | succ j =>
   have := ih (j := j) (by simpa using h)
   rw [show (j + 1) * 3 = j * 3 + 3 by omega]
   simpa using this
theorem rowG_rte {w : World} {va : Option Addr} {vc : Nat} {ys : List Ent} {j : Nat} {x : Ent} (h : RowG 90 3 w (.slice va ys.length vc) ys.length (rteC ys)) (hj : ys[j]? = some x) :
  ∃ gv, va = some ⟨gv, 0, none⟩ /\ gv < w.heap.size /\ w.cell? ⟨gv, j * 3, none⟩ = some (.int .i64 x.a) /\ w.cell? ⟨gv, j * 3 + 1, none⟩ = some (.int .i64 x.l) /\ w.cell? ⟨gv, j * 3 + 2, none⟩ = some (.int .i64 x.n) := by
 obtain ⟨a0, a1, a2⟩ := rteC_at hj
 have hlt := (List.getElem?_eq_some_iff.1 hj).1
 rcases h.2 with ⟨_, h2⟩ | ⟨g, cap, sp, he, hg, _⟩
 ·omega
 ·cases he
  exact ⟨g, rfl, (Array.getElem?_eq_some_iff.1 hg).1, h.cell a0, h.cell a1, h.cell a2⟩
end Go.Proofs.YtglbamalagacgaaGreat

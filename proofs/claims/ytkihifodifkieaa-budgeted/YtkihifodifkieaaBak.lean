import Derived.Test.YtkihifodifkieaaTkb
import Derived.Test.YtkihifodifkieaaLap
namespace Go.Proofs.Ytkihifodifkieaa

theorem getE_setE {xs : List Ent} {a l n : Int} (hs : Sorted xs) (b m : Int) : getE (setE xs a l n) b m = if a = b ∧ l = m then (if n = 0 then none else some n) else getE xs b m := by
  unfold setE
  by_cases h : n = 0
  · rw [if_pos h, getE_del hs, if_pos h]
  · rw [if_neg h, getE_put hs, if_neg h]
theorem getE_mem {xs : List Ent} {a l v : Int} (h : getE xs a l = some v) : ∃ y ∈ xs, y.a = a ∧ y.l = l ∧ y.n = v := by
  induction xs with
  | nil => cases h
  | cons x xs ih =>
    rw [getE] at h
    split at h
    · rename_i he
      cases h
      exact ⟨x, by simp, he.1, he.2, rfl⟩
    · obtain ⟨y, h1, h2⟩ := ih h
      exact ⟨y, by simp [h1], h2⟩
theorem sorted_ext : ∀ {xs ys : List Ent}, Sorted xs → Sorted ys → (∀ a l, getE xs a l = getE ys a l) → xs = ys
  | [], [], _, _, _ => rfl
  | [], y :: ys, _, _, h => by
    have := h y.a y.l
    simp [getE] at this
  | x :: xs, [], _, _, h => by
    have := h x.a x.l
    simp [getE] at this
  | x :: xs, y :: ys, hx, hy, h => by
    obtain ⟨hx1, hx2⟩ := sorted_tail hx
    obtain ⟨hy1, hy2⟩ := sorted_tail hy
    have kx := h x.a x.l
    have ky := h y.a y.l
    have hk : y.a = x.a ∧ y.l = x.l := by
      by_cases he : y.a = x.a ∧ y.l = x.l
      · exact he
      exfalso
      rw [getE, if_pos ⟨rfl, rfl⟩, getE, if_neg he] at kx
      rw [getE, if_neg (fun h => he ⟨h.1.symm, h.2.symm⟩), getE, if_pos ⟨rfl, rfl⟩] at ky
      obtain ⟨z, hz, z1, z2, _⟩ := getE_mem kx.symm
      obtain ⟨u, hu, u1, u2, _⟩ := getE_mem ky
      have c1 := hy2 z hz
      have c2 := hx2 u hu
      unfold klt at c1 c2
      omega
    have hn : x.n = y.n := by
      rw [getE, if_pos ⟨rfl, rfl⟩, getE, if_pos hk] at kx
      exact Option.some.inj kx
    have hxy : x = y := by
      cases x; cases y
      simp only at hk hn
      simp [hk, hn]
    subst hxy
    congr 1
    refine sorted_ext hx1 hy1 fun a l => ?_
    have hal := h a l
    rw [getE, getE] at hal
    by_cases he : x.a = a ∧ x.l = l
    · rw [getE_none fun y hy' hh => by have := hx2 y hy'; unfold klt at this; omega, getE_none fun y hy' hh => by have := hy2 y hy'; unfold klt at this; omega]
    · rwa [if_neg he, if_neg he] at hal

theorem setE_back {xs : List Ent} {a l n : Int} (hs : Sorted xs) (ho : ∀ x ∈ xs, okE x) : setE (setE xs a l n) a l (orZ (getE xs a l)) = xs := by
  refine sorted_ext (setE_sorted (setE_sorted hs)) hs fun b m => ?_
  rw [getE_setE (setE_sorted hs), getE_setE hs]
  by_cases he : a = b ∧ l = m
  · obtain ⟨rfl, rfl⟩ := he
    simp only [and_self, if_true]
    cases hg : getE xs a l with
    | none => rfl
    | some v =>
      have hv := orZ_ok (a := a) (l := l) ho (by rw [hg]; rfl)
      rw [hg] at hv
      have hv' : ¬ v = 0 := by simpa [orZ] using hv
      simp [orZ, hv']
  · rw [if_neg he, if_neg he]

theorem back_push {xs x0 : List Ent} {us : List Ud} {a l n : Int} (hs : Sorted xs) (ho : ∀ x ∈ xs, okE x) (h : back xs us = x0) : back (setE xs a l n) (us ++ [⟨a, l, orZ (getE xs a l)⟩]) = x0 := by
  rw [back_snoc, setE_back hs ho, h]

end Go.Proofs.Ytkihifodifkieaa

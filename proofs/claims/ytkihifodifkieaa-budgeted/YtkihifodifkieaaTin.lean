import Derived.Test.YtkihifodifkieaaTac
namespace Go.Proofs.Ytkihifodifkieaa
open Go.RowKit Go.Shelf

theorem tab1_fits {s : S1} {ys : List Ent} (h : needK s.k ys ≤ needK s.k s.xs ∨ needK s.k ys ≤ s.b) : tab1.fits s ⟨ys, s.b, s.lg, s.k⟩ := by
  show needK s.k ys + 0 + 0 ≤ needK s.k s.xs + 0 + 0 ∨ needK s.k ys + 0 + 0 ≤ s.b
  omega
theorem tab1_same (s : S1) : tab1.fits s s := .inl (Int.le_refl _)

theorem tab1_works : tab1.Works where
  add := by
    rintro w t s F a l n ⟨⟨e, Fe, ⟨hT, hke⟩, rfl⟩, hr⟩
    refine (tabAdd_any w t e s.b s.xs Fe a l n hT).mono ?_
    rintro r w' (⟨h1, rfl, hB⟩ | ⟨h1, h2, rfl, hB⟩ | ⟨h1, h2, h3, er, ys, F', rfl, q1, q2, q3, q4⟩)
    · exact ⟨_, s, t :: Fe, rfl, ⟨2, rfl, .inl ⟨h1, rfl, rfl⟩⟩, ⟨⟨e, Fe, ⟨hT.later hB, hke⟩, rfl⟩, hr⟩, NewF.refl _ _, Only.of_below _ hB, rfl⟩
    · exact ⟨_, s, t :: Fe, rfl, ⟨3, rfl, .inr (.inl ⟨h1, h2, rfl, rfl⟩)⟩, ⟨⟨e, Fe, ⟨hT.later hB, hke⟩, rfl⟩, hr⟩, NewF.refl _ _, Only.of_below _ hB, rfl⟩
    · have hc := chg_none (xs := s.xs) h1 h2 h3
      rcases q4 with ⟨h4, _⟩ | ⟨_, rfl, rfl, h4⟩ | ⟨_, rfl, rfl, h4⟩
      · exact absurd hc h4
      · have hg : getE s.xs a l = none := by
          cases hg : getE s.xs a l with
          | none => rfl
          | some v =>
            exfalso
            rw [setE, if_neg (by omega), needK_put hT.eng.sorted hT.eng.ok ⟨h1, h2, h3⟩ hg] at h4
            omega
        exact ⟨_, s, t :: F', rfl, ⟨6, rfl, .inr (.inr (.inl ⟨h1, h2, h3, hg, rfl, rfl⟩))⟩, ⟨⟨e, F', ⟨q1, hke⟩, rfl⟩, hr⟩, new_cons q2, only_cons q3, rfl⟩
      · exact ⟨_, ⟨setE s.xs a l n, s.b, s.lg, s.k⟩, t :: F', rfl, ⟨0, rfl, .inr (.inr (.inr ⟨h1, h2, h3, rfl, rfl, tab1_fits (hke ▸ h4), rfl⟩))⟩, ⟨⟨e, F', ⟨q1, hke⟩, rfl⟩, hr⟩, new_cons q2, only_cons q3, rfl⟩
  del := by
    rintro w t s F a l ⟨⟨e, Fe, ⟨hT, hke⟩, rfl⟩, hr⟩
    refine (tabDelete_any w t e s.b s.xs Fe a l hT).mono ?_
    rintro r w' ⟨er, ys, F', rfl, q1, q2, q3, q4⟩
    by_cases h1 : isPfx a l = false
    · have hc : chgE s.xs a l 0 = 2 := by unfold chgE; rw [if_pos h1]
      rw [hc] at q4
      rcases q4 with ⟨_, rfl, rfl⟩ | ⟨h4, _⟩ | ⟨h4, _⟩
      · exact ⟨_, s, t :: F', rfl, ⟨2, rfl, .inl ⟨h1, rfl, rfl⟩⟩, ⟨⟨e, F', ⟨q1, hke⟩, rfl⟩, hr⟩, new_cons q2, only_cons q3, rfl⟩
      · cases h4
      · cases h4
    have hp : isPfx a l = true := by simpa using h1
    cases hg : getE s.xs a l with
    | none =>
      have hc : chgE s.xs a l 0 = 5 := by unfold chgE; rw [if_neg h1, if_neg (by omega), if_pos ⟨rfl, hg⟩]
      rw [hc] at q4
      rcases q4 with ⟨_, rfl, rfl⟩ | ⟨h4, _⟩ | ⟨h4, _⟩
      · exact ⟨_, s, t :: F', rfl, ⟨5, rfl, .inr (.inl ⟨hp, hg, rfl, rfl⟩)⟩, ⟨⟨e, F', ⟨q1, hke⟩, rfl⟩, hr⟩, new_cons q2, only_cons q3, rfl⟩
      · cases h4
      · cases h4
    | some v =>
      have hc : chgE s.xs a l 0 = 0 := by unfold chgE; rw [if_neg h1, if_neg (by omega), if_neg (by rw [hg]; simp)]
      rw [hc] at q4
      have hsm : (getE s.xs a l).isSome = true := by rw [hg]; rfl
      rcases q4 with ⟨h4, _⟩ | ⟨_, rfl, rfl, h4⟩ | ⟨_, rfl, rfl, h4⟩
      · exact absurd rfl h4
      · exfalso
        rw [setE, if_pos rfl] at h4
        have := needK_del (k := kindE e) (a := a) (l := l) hT.eng.sorted hT.eng.ok
        omega
      · exact ⟨_, ⟨setE s.xs a l 0, s.b, s.lg, s.k⟩, t :: F', rfl, ⟨0, rfl, .inr (.inr ⟨hp, hsm, rfl, rfl, tab1_fits (hke ▸ h4), rfl⟩)⟩, ⟨⟨e, F', ⟨q1, hke⟩, rfl⟩, hr⟩, new_cons q2, only_cons q3, rfl⟩
  cells := by
    rintro w t s F ⟨⟨e, Fe, ⟨hT, hke⟩, rfl⟩, hr⟩
    have := tabCells_any w t e s.b s.xs Fe hT
    rw [hke] at this
    exact this

theorem tab1_apps : tab1.Apps := by
  rintro w t s F v cs ⟨⟨e, Fe, ⟨hT, hke⟩, rfl⟩, hr⟩ hv hva
  refine (apply_any w t e s.b s.xs Fe v cs hT hv hva).mono ?_
  rintro r w' ⟨n, er, ys, F', rfl, q1, q2, q3, q4⟩
  rcases q4 with ⟨h1, rfl, rfl, rfl⟩ | ⟨h1, h2, rfl, rfl, rfl⟩ | ⟨h1, h2, rfl, rfl, rfl, _⟩ | ⟨h1, h2, rfl, rfl, rfl, h3⟩
  · exact ⟨_, s, t :: F', rfl, ⟨_, _, rfl, .inl ⟨h1, rfl, rfl, rfl⟩⟩, ⟨⟨e, F', ⟨q1, hke⟩, rfl⟩, hr⟩, new_cons q2, only_cons q3, rfl⟩
  · exact ⟨_, s, t :: F', rfl, ⟨_, _, rfl, .inr (.inl ⟨h1, h2, rfl, rfl, rfl⟩)⟩, ⟨⟨e, F', ⟨q1, hke⟩, rfl⟩, hr⟩, new_cons q2, only_cons q3, rfl⟩
  · exact ⟨_, s, t :: F', rfl, ⟨_, _, rfl, .inr (.inr (.inl ⟨h1, h2, rfl, rfl, rfl⟩))⟩, ⟨⟨e, F', ⟨q1, hke⟩, rfl⟩, hr⟩, new_cons q2, only_cons q3, rfl⟩
  · exact ⟨_, ⟨(tryX cs s.xs 0).1, s.b, s.lg, s.k⟩, t :: F', rfl, ⟨_, _, rfl, .inr (.inr (.inr ⟨h1, h2, rfl, rfl, tab1_fits (hke ▸ h3), rfl, rfl⟩))⟩, ⟨⟨e, F', ⟨q1, hke⟩, rfl⟩, hr⟩, new_cons q2, only_cons q3, rfl⟩

theorem tab1_goes : tab1.Goes where
  set := by
    rintro w t s F n ⟨⟨e, Fe, ⟨hT, hke⟩, rfl⟩, hr⟩
    refine (setBudget_any w t e s.b s.xs Fe n hT).mono ?_
    rintro r w' (⟨h1, rfl, rfl⟩ | ⟨h1, h2, rfl, q1, q2⟩)
    · exact ⟨_, s, t :: Fe, rfl, ⟨11, rfl, .inr ⟨h1, rfl⟩, rfl, tab1_same s⟩, ⟨⟨e, Fe, ⟨hT, hke⟩, rfl⟩, hr⟩, NewF.refl _ _, Only.refl _ _, rfl⟩
    · exact ⟨_, ⟨s.xs, n, s.lg, s.k⟩, t :: Fe, rfl, ⟨0, rfl, .inl ⟨h1, h2, rfl⟩, rfl, .inl (Int.le_refl _)⟩, ⟨⟨e, Fe, ⟨q1, hke⟩, rfl⟩, h1, h2, hr.2.2⟩, NewF.refl _ _, q2.mono (fun x hx _ => by simp at hx; simp [hx]), rfl⟩
  move := by
    rintro w t s F n ⟨⟨e, Fe, ⟨hT, hke⟩, rfl⟩, hr⟩
    refine (move_any w t n).mono ?_
    rintro r w' ⟨rfl, rfl⟩
    exact ⟨_, s, t :: Fe, rfl, ⟨rfl, tab1_same s⟩, ⟨⟨e, Fe, ⟨hT, hke⟩, rfl⟩, hr⟩, NewF.refl _ _, Only.refl _ _, rfl⟩
  step := by
    rintro w t s F ⟨⟨e, Fe, ⟨hT, hke⟩, rfl⟩, hr⟩
    refine (tstep_any w t).mono ?_
    rintro r w' ⟨rfl, rfl⟩
    exact ⟨_, s, t :: Fe, rfl, ⟨rfl, tab1_same s⟩, ⟨⟨e, Fe, ⟨hT, hke⟩, rfl⟩, hr⟩, NewF.refl _ _, Only.refl _ _, rfl⟩
  abort := by
    rintro w t s F ⟨⟨e, Fe, ⟨hT, hke⟩, rfl⟩, hr⟩
    refine (abort_any w t).mono ?_
    rintro r w' ⟨rfl, rfl⟩
    exact ⟨_, s, t :: Fe, rfl, ⟨rfl, tab1_same s⟩, ⟨⟨e, Fe, ⟨hT, hke⟩, rfl⟩, hr⟩, NewF.refl _ _, Only.refl _ _, rfl⟩


end Go.Proofs.Ytkihifodifkieaa

import Derived.Test.YtfioeangigicfaaTac
namespace Go.Proofs.Ytfioeangigicfaa
open Go.RowKit Go.Shelf

theorem tab1_fits {s : S1} {ys : List Ent} (h : (ys.length : Int) ≤ s.xs.length ∨ (ys.length : Int) ≤ s.b) : tab1.fits s ⟨ys, s.b, s.lg⟩ := by
  show (ys.length : Int) + 0 + 0 ≤ (s.xs.length : Int) + 0 + 0 ∨ (ys.length : Int) + 0 + 0 ≤ s.b
  omega
theorem tab1_same (s : S1) : tab1.fits s s := .inl (Int.le_refl _)

theorem delE_len (xs : List Ent) (a l : Int) : (delE xs a l).length ≤ xs.length := by
  induction xs with
  | nil => exact Nat.le_refl _
  | cons x xs ih =>
    rw [delE]
    split
    · simp
    · simp only [List.length_cons]; omega

theorem tab1_works : tab1.Works where
  add := by
    rintro w t s F a l n ⟨⟨e, Fe, hT, rfl⟩, hr⟩
    refine (tabAdd_any w t e s.b s.xs Fe a l n hT).mono ?_
    rintro r w' (⟨h1, rfl, hB⟩ | ⟨h1, h2, rfl, hB⟩ | ⟨h1, h2, h3, er, ys, F', rfl, q1, q2, q3, q4⟩)
    · exact ⟨_, s, t :: Fe, rfl, ⟨2, rfl, .inl ⟨h1, rfl, rfl⟩⟩, ⟨⟨e, Fe, hT.later hB, rfl⟩, hr⟩, NewF.refl _ _, Only.of_below _ hB, rfl⟩
    · exact ⟨_, s, t :: Fe, rfl, ⟨3, rfl, .inr (.inl ⟨h1, h2, rfl, rfl⟩)⟩, ⟨⟨e, Fe, hT.later hB, rfl⟩, hr⟩, NewF.refl _ _, Only.of_below _ hB, rfl⟩
    · have hc := chg_none (xs := s.xs) h1 h2 h3
      rcases q4 with ⟨h4, _⟩ | ⟨_, rfl, rfl, h4⟩ | ⟨_, rfl, rfl, h4⟩
      · exact absurd hc h4
      · have hg : getE s.xs a l = none := by
          cases hg : getE s.xs a l with
          | none => rfl
          | some v =>
            exfalso
            rw [setE, if_neg (by omega), putE_len hT.eng.sorted hg] at h4
            omega
        exact ⟨_, s, t :: F', rfl, ⟨6, rfl, .inr (.inr (.inl ⟨h1, h2, h3, hg, rfl, rfl⟩))⟩, ⟨⟨e, F', q1, rfl⟩, hr⟩, new_cons q2, only_cons q3, rfl⟩
      · exact ⟨_, ⟨setE s.xs a l n, s.b, s.lg⟩, t :: F', rfl, ⟨0, rfl, .inr (.inr (.inr ⟨h1, h2, h3, rfl, rfl, tab1_fits h4, rfl⟩))⟩, ⟨⟨e, F', q1, rfl⟩, hr⟩, new_cons q2, only_cons q3, rfl⟩
  del := by
    rintro w t s F a l ⟨⟨e, Fe, hT, rfl⟩, hr⟩
    refine (tabDelete_any w t e s.b s.xs Fe a l hT).mono ?_
    rintro r w' ⟨er, ys, F', rfl, q1, q2, q3, q4⟩
    by_cases h1 : isPfx a l = false
    · have hc : chgE s.xs a l 0 = 2 := by unfold chgE; rw [if_pos h1]
      rw [hc] at q4
      rcases q4 with ⟨_, rfl, rfl⟩ | ⟨h4, _⟩ | ⟨h4, _⟩
      · exact ⟨_, s, t :: F', rfl, ⟨2, rfl, .inl ⟨h1, rfl, rfl⟩⟩, ⟨⟨e, F', q1, rfl⟩, hr⟩, new_cons q2, only_cons q3, rfl⟩
      · cases h4
      · cases h4
    have hp : isPfx a l = true := by simpa using h1
    cases hg : getE s.xs a l with
    | none =>
      have hc : chgE s.xs a l 0 = 5 := by unfold chgE; rw [if_neg h1, if_neg (by omega), if_pos ⟨rfl, hg⟩]
      rw [hc] at q4
      rcases q4 with ⟨_, rfl, rfl⟩ | ⟨h4, _⟩ | ⟨h4, _⟩
      · exact ⟨_, s, t :: F', rfl, ⟨5, rfl, .inr (.inl ⟨hp, hg, rfl, rfl⟩)⟩, ⟨⟨e, F', q1, rfl⟩, hr⟩, new_cons q2, only_cons q3, rfl⟩
      · cases h4
      · cases h4
    | some v =>
      have hc : chgE s.xs a l 0 = 0 := by unfold chgE; rw [if_neg h1, if_neg (by omega), if_neg (by rw [hg]; simp)]
      rw [hc] at q4
      have hsm : (getE s.xs a l).isSome = true := by rw [hg]; rfl
      rcases q4 with ⟨h4, _⟩ | ⟨_, rfl, rfl, h4⟩ | ⟨_, rfl, rfl, h4⟩
      · exact absurd rfl h4
      · exfalso
        have : (setE s.xs a l 0).length ≤ s.xs.length := by
          rw [setE, if_pos rfl]
          exact delE_len s.xs a l
        omega
      · exact ⟨_, ⟨setE s.xs a l 0, s.b, s.lg⟩, t :: F', rfl, ⟨0, rfl, .inr (.inr ⟨hp, hsm, rfl, rfl, tab1_fits h4, rfl⟩)⟩, ⟨⟨e, F', q1, rfl⟩, hr⟩, new_cons q2, only_cons q3, rfl⟩
  cells := by
    rintro w t s F ⟨⟨e, Fe, hT, rfl⟩, hr⟩
    exact tabCells_any w t e s.b s.xs Fe hT

theorem tab1_apps : tab1.Apps := by
  rintro w t s F v cs ⟨⟨e, Fe, hT, rfl⟩, hr⟩ hv hva
  refine (apply_any w t e s.b s.xs Fe v cs hT hv hva).mono ?_
  rintro r w' ⟨n, er, ys, F', rfl, q1, q2, q3, q4⟩
  rcases q4 with ⟨h1, rfl, rfl, rfl⟩ | ⟨h1, h2, rfl, rfl, rfl⟩ | ⟨h1, h2, rfl, rfl, rfl, _⟩ | ⟨h1, h2, rfl, rfl, rfl, h3⟩
  · exact ⟨_, s, t :: F', rfl, ⟨_, _, rfl, .inl ⟨h1, rfl, rfl, rfl⟩⟩, ⟨⟨e, F', q1, rfl⟩, hr⟩, new_cons q2, only_cons q3, rfl⟩
  · exact ⟨_, s, t :: F', rfl, ⟨_, _, rfl, .inr (.inl ⟨h1, h2, rfl, rfl, rfl⟩)⟩, ⟨⟨e, F', q1, rfl⟩, hr⟩, new_cons q2, only_cons q3, rfl⟩
  · exact ⟨_, s, t :: F', rfl, ⟨_, _, rfl, .inr (.inr (.inl ⟨h1, h2, rfl, rfl, rfl⟩))⟩, ⟨⟨e, F', q1, rfl⟩, hr⟩, new_cons q2, only_cons q3, rfl⟩
  · exact ⟨_, ⟨(tryX cs s.xs 0).1, s.b, s.lg⟩, t :: F', rfl, ⟨_, _, rfl, .inr (.inr (.inr ⟨h1, h2, rfl, rfl, tab1_fits h3, rfl, rfl⟩))⟩, ⟨⟨e, F', q1, rfl⟩, hr⟩, new_cons q2, only_cons q3, rfl⟩

theorem tab1_goes : tab1.Goes where
  set := by
    rintro w t s F n ⟨⟨e, Fe, hT, rfl⟩, hr⟩
    refine (setBudget_any w t e s.b s.xs Fe n hT).mono ?_
    rintro r w' (⟨h1, rfl, rfl⟩ | ⟨h1, h2, rfl, q1, q2⟩)
    · exact ⟨_, s, t :: Fe, rfl, ⟨11, rfl, .inr ⟨h1, rfl⟩, rfl, tab1_same s⟩, ⟨⟨e, Fe, hT, rfl⟩, hr⟩, NewF.refl _ _, Only.refl _ _, rfl⟩
    · exact ⟨_, ⟨s.xs, n, s.lg⟩, t :: Fe, rfl, ⟨0, rfl, .inl ⟨h1, h2, rfl⟩, rfl, .inl (Int.le_refl _)⟩, ⟨⟨e, Fe, q1, rfl⟩, h1, h2, hr.2.2⟩, NewF.refl _ _, q2.mono (fun x hx _ => by simp at hx; simp [hx]), rfl⟩
  move := by
    rintro w t s F n ⟨⟨e, Fe, hT, rfl⟩, hr⟩
    refine (move_any w t n).mono ?_
    rintro r w' ⟨rfl, rfl⟩
    exact ⟨_, s, t :: Fe, rfl, ⟨rfl, tab1_same s⟩, ⟨⟨e, Fe, hT, rfl⟩, hr⟩, NewF.refl _ _, Only.refl _ _, rfl⟩
  step := by
    rintro w t s F ⟨⟨e, Fe, hT, rfl⟩, hr⟩
    refine (tstep_any w t).mono ?_
    rintro r w' ⟨rfl, rfl⟩
    exact ⟨_, s, t :: Fe, rfl, ⟨rfl, tab1_same s⟩, ⟨⟨e, Fe, hT, rfl⟩, hr⟩, NewF.refl _ _, Only.refl _ _, rfl⟩
  abort := by
    rintro w t s F ⟨⟨e, Fe, hT, rfl⟩, hr⟩
    refine (abort_any w t).mono ?_
    rintro r w' ⟨rfl, rfl⟩
    exact ⟨_, s, t :: Fe, rfl, ⟨rfl, tab1_same s⟩, ⟨⟨e, Fe, hT, rfl⟩, hr⟩, NewF.refl _ _, Only.refl _ _, rfl⟩

theorem budgeted_holds : Rows.BudgetedSaid := budgeted_row tab1 tab1_news tab1_works tab1_apps tab1_goes

#print axioms budgeted_holds

end Go.Proofs.Ytfioeangigicfaa

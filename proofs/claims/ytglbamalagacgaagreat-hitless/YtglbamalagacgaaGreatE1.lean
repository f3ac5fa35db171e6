import Derived.Test.YtglbamalagacgaaGreatT4
namespace Go.Proofs.YtglbamalagacgaaGreat
open Go.RowKit Go.Shelf

-- HOW LONG A MOVE MAY LAST
def npast (xs : List Ent) (m : Mv) : Nat := (xs.filter fun x => !decide (m.past x.a x.l)).length
theorem filter_lt {α : Type} (p q : α → Bool) : ∀ (xs : List α), (∀ x ∈ xs, p x = true → q x = true) → (∃ x ∈ xs, q x = true ∧ p x = false) → (xs.filter p).length + 1 ≤ (xs.filter q).length
  | [], _, ⟨x, hx, _⟩ => by cases hx
  | y :: ys, h, ⟨x, hx, h1, h2⟩ => by
    have hle : ∀ zs : List α, (∀ x ∈ zs, p x = true → q x = true) → (zs.filter p).length ≤ (zs.filter q).length := by
      intro zs hz
      induction zs with
      | nil => simp
      | cons z zs ih =>
        have i1 := ih fun x hx => hz x (by simp [hx])
        have i2 := hz z (by simp)
        rw [List.filter_cons, List.filter_cons]
        by_cases hp : p z = true
        · rw [if_pos hp, if_pos (i2 hp)]; simp; exact i1
        · rw [if_neg hp]
          split
          · simp; omega
          · exact i1
    rw [List.filter_cons, List.filter_cons]
    rcases List.mem_cons.1 hx with rfl | hx
    · rw [if_neg (by rw [h2]; simp), if_pos h1]
      have := hle ys fun x hx => h x (by simp [hx])
      simp
      exact this
    · have ih := filter_lt p q ys (fun x hx => h x (by simp [hx])) ⟨x, hx, h1, h2⟩
      by_cases hp : p y = true
      · rw [if_pos hp, if_pos (h y (by simp) hp)]; simp; exact ih
      · rw [if_neg hp]
        split
        · simp; omega
        · exact ih
theorem npast_lay {s : TS} {x : Ent} {rest : List Ent} {m : Mv} (h : CpI s (x :: rest) m) (hp : ¬ m.past x.a x.l) : npast s.xs (m.lay x) + 1 ≤ npast s.xs m := by
  refine filter_lt _ _ _ (fun y _ hq => ?_) ⟨x, h.sub x (by simp), ?_, ?_⟩
  · have hq' : ¬ (m.lay x).past y.a y.l := by simpa using hq
    have : ¬ m.past y.a y.l := fun h3 => hq' ⟨by show 0 < m.cp + 1; have := h3.1; omega, by
      show ¬ klt x.a x.l y.a y.l
      have hk : klt m.ca m.cl x.a x.l := by
        by_cases hk : klt m.ca m.cl x.a x.l
        · exact hk
        · exact absurd ⟨h3.1, hk⟩ hp
      have := h3.2
      unfold klt at hk this ⊢
      omega⟩
    simpa using this
  · simpa using hp
  · have : (m.lay x).past x.a x.l := ⟨by show 0 < m.cp + 1; have := h.ok.cp0; omega, by show ¬ klt x.a x.l x.a x.l; unfold klt; omega⟩
    simpa using this
theorem cpRun_np {s : TS} (hs : s.Ok) : ∀ (rest : List Ent) (n : Nat) (m : Mv), CpI s rest m → (n : Int) ≤ s.ch → (cpRun s rest n m).1 = 1 → ∃ m', (cpRun s rest n m).2 = s.at m' ∧ m'.k = m.k ∧ m'.lg = m.lg ∧ (m'.ph = 2 ∨ (m'.ph = 1 ∧ (npast s.xs m' : Int) + (s.ch - n) ≤ npast s.xs m))
  | [], n, m, h, hn, _ => by
    rw [cpRun]
    by_cases hc : (n : Int) < s.ch
    · exact ⟨{ m with ph := 2 }, by rw [if_pos hc], rfl, rfl, .inl rfl⟩
    · exact ⟨m, by rw [if_neg hc], rfl, rfl, .inr ⟨h.ph, by omega⟩⟩
  | x :: rest, n, m, h, hn, h1 => by
    rw [cpRun] at h1 ⊢
    by_cases hp : m.past x.a x.l
    · rw [if_pos hp] at h1 ⊢
      exact cpRun_np hs rest n m (h.tail hp) hn h1
    rw [if_neg hp] at h1 ⊢
    by_cases hc : (n : Int) = s.ch
    · rw [if_pos hc]
      exact ⟨m, rfl, rfl, rfl, .inr ⟨h.ph, by omega⟩⟩
    rw [if_neg hc] at h1 ⊢
    by_cases ho : (s.at m).over (s.at (m.lay x))
    · rw [if_pos ho] at h1
      have : (4 : Int) = 1 := h1
      omega
    · rw [if_neg ho] at h1 ⊢
      obtain ⟨m', q1, q2, q3, q4⟩ := cpRun_np hs rest (n + 1) (m.lay x) (h.lay hs hp) (by omega) h1
      refine ⟨m', q1, q2, q3, q4.imp id ?_⟩
      rintro ⟨q5, q6⟩
      have := npast_lay h hp
      refine ⟨q5, ?_⟩
      have e : ((n + 1 : Nat) : Int) = (n : Int) + 1 := by omega
      rw [e] at q6
      omega
theorem ctRun_two {s : TS} : ∀ (n : Nat) (m : Mv), (ctRun s n m).1 = 2 → ∃ m', (ctRun s n m).2 = s.at m' ∧ m'.k = m.k ∧ m'.ph = m.ph ∧ m'.lg.length + n = m.lg.length ∧ m'.lg ≠ []
  | 0, m, h => by
    rw [ctRun] at h ⊢
    by_cases he : m.lg = []
    · rw [if_pos he] at h
      have : (3 : Int) = 2 := h
      omega
    · rw [if_neg he]
      exact ⟨m, rfl, rfl, rfl, rfl, he⟩
  | n + 1, m, h => by
    rw [ctRun] at h ⊢
    by_cases ho : (s.at m).over (s.at (m.catch s.xs))
    · rw [if_pos ho] at h
      have : (4 : Int) = 2 := h
      omega
    · rw [if_neg ho] at h ⊢
      obtain ⟨m', q1, q2, q3, q4, q5⟩ := ctRun_two n (m.catch s.xs) h
      cases hl : m.lg with
      | nil =>
        exfalso
        have e : (m.catch s.xs).lg = [] := by unfold Mv.catch; rw [hl]; exact hl
        rw [e] at q4
        simp at q4
        exact q5 q4.1
      | cons p lg =>
        have e : (m.catch s.xs).lg = lg := by unfold Mv.catch; rw [hl]
        have e2 : (m.catch s.xs).k = m.k := by unfold Mv.catch; rw [hl]
        have e3 : (m.catch s.xs).ph = m.ph := by unfold Mv.catch; rw [hl]
        rw [e] at q4
        refine ⟨m', q1, q2.trans e2, q3.trans e3, ?_, q5⟩
        simp
        omega

-- what a Step leaves, if it is not the last one
structure AftS (s : TS) (m : Mv) (s' : TS) (m' : Mv) : Prop where
  eq : s' = s.at m'
  k : m'.k = m.k
  goes : (m.ph = 1 ∧ m'.ph = 1 ∧ (npast s.xs m' : Int) + s.ch ≤ npast s.xs m) ∨ (m.ph = 1 ∧ m'.ph = 2) ∨ (m.ph = 2 ∧ m'.ph = 2 ∧ (m'.lg.length : Int) + s.ch = m.lg.length ∧ 0 < m'.lg.length)
theorem step_aft {s : TS} {m : Mv} (hs : s.Ok) (hm : s.mv = some m) : (s.step.1 = 3 ∨ s.step.1 = 4) ∨ ((s.step.1 = 1 ∨ s.step.1 = 2) ∧ ∃ m', AftS s m s.step.2 m') := by
  obtain ⟨hmo, hml⟩ := hs.mv m hm
  have hu : (s.at m).use ≤ s.use ∨ (s.at m).use ≤ s.b := by rw [TS.at_same hm]; exact .inl (Int.le_refl _)
  unfold TS.step
  rw [hm]
  dsimp only
  by_cases h1 : m.ph = 1
  · rw [if_pos h1]
    have hI := CpI.start hs hm h1
    rcases (cpRun_ok hs hm _ 0 m hI (by have := hs.ch1; omega) hu rfl).2 with h2 | h2
    · refine .inr ⟨.inl h2, ?_⟩
      obtain ⟨m', q1, q2, q3, q4⟩ := cpRun_np hs _ 0 m hI (by have := hs.ch1; omega) h2
      refine ⟨m', q1, q2, ?_⟩
      rcases q4 with q4 | ⟨q4, q5⟩
      · exact .inr (.inl ⟨h1, q4⟩)
      · exact .inl ⟨h1, q4, by simpa using q5⟩
    · exact .inl (.inr h2)
  · rw [if_neg h1]
    have h2 : m.ph = 2 := by have := hmo.ph; omega
    rcases (ctRun_ok hs hm (min s.ch.toNat m.lg.length) m hmo h2 hml hu rfl).2 with h3 | h3 | h3
    · refine .inr ⟨.inr h3, ?_⟩
      obtain ⟨m', q1, q2, q3, q4, q5⟩ := ctRun_two _ m h3
      have h5 : 0 < m'.lg.length := List.length_pos_iff.2 q5
      exact ⟨m', q1, q2, .inr (.inr ⟨h2, q3.trans h2, by have := hs.ch1; omega, h5⟩)⟩
    · exact .inl (.inl h3)
    · exact .inl (.inr h3)

-- how far it is from its end, at a Step
def phi (s : TS) (m : Mv) : Int := if m.ph = 1 then (npast s.xs m : Int) + 1 + s.lim else max (m.lg.length : Int) 1
theorem phi_pos (s : TS) (m : Mv) (hs : s.Ok) : 1 ≤ phi s m := by
  have := hs.l1
  unfold phi
  split <;> omega
-- j changes behind it
def EndI (B K PH N : Int) (s : TS) (j : Nat) : Prop := (s.mv = none ∧ s.bs = B + 1) ∨ (∃ m, s.mv = some m ∧ m.k = K ∧ s.bs = B ∧ m.ph = PH ∧ (PH = 1 → (npast s.xs m : Int) ≤ N + j) ∧ (PH = 2 → (m.lg.length : Int) ≤ N + j))
theorem filter_put {p : Ent → Bool} (hp : ∀ x y : Ent, x.a = y.a → x.l = y.l → p x = p y) (xs : List Ent) (a l n : Int) : ((putE xs a l n).filter p).length ≤ (xs.filter p).length + 1 := by
  induction xs with
  | nil => rw [putE, List.filter_cons]; split <;> simp
  | cons x xs ih =>
    rw [putE]
    split
    · rw [List.filter_cons, List.filter_cons]
      split
      · simp; exact ih
      · exact ih
    · split
      · rename_i h
        rw [List.filter_cons, List.filter_cons, hp ⟨a, l, n⟩ x h.1.symm h.2.symm]
        split <;> simp
      · rw [List.filter_cons]
        split
        · simp
        · omega
theorem filter_del (p : Ent → Bool) (xs : List Ent) (a l : Int) : ((delE xs a l).filter p).length ≤ (xs.filter p).length := by
  induction xs with
  | nil => simp [delE]
  | cons x xs ih =>
    rw [delE]
    split
    · rw [List.filter_cons]
      split
      · simp
      · exact Nat.le_refl _
    · rw [List.filter_cons, List.filter_cons]
      split
      · simp; exact ih
      · exact ih
theorem npast_set (xs : List Ent) (m : Mv) (a l n : Int) : npast (setE xs a l n) m ≤ npast xs m + 1 := by
  unfold npast setE
  split
  · have := filter_del (fun x => !decide (m.past x.a x.l)) xs a l; omega
  · exact filter_put (fun x y h1 h2 => by rw [h1, h2]) xs a l n
theorem npast_same {m m' : Mv} (h : SameM m m') (xs : List Ent) : npast xs m' = npast xs m := by
  unfold npast
  congr 1
  refine List.filter_congr fun x _ => ?_
  rw [decide_eq_decide.2 (h.past x.a x.l)]
theorem EndI.next {B K PH N : Int} {s : TS} {j : Nat} (h : EndI B K PH N s j) (hB : wrap64 (B + 1) = B + 1) (a l n : Int) : EndI B K PH N (s.one a l n).2 (j + 1) := by
  have hmono : EndI B K PH N s (j + 1) := by
    rcases h with h | ⟨m, h1, h2, h3, h4, h5, h6⟩
    · exact .inl h
    · exact .inr ⟨m, h1, h2, h3, h4, fun q => by have := h5 q; omega, fun q => by have := h6 q; omega⟩
  rcases one_cases s a l n with ⟨_, e⟩ | ⟨_, _, _, e⟩ | ⟨_, _, e⟩
  · rw [e]; exact hmono
  · rw [e]; exact hmono
  · rw [e]
    show EndI B K PH N ((s.lays (setE s.xs a l n)).follow [⟨a, l, n⟩] s.use) (j + 1)
    unfold TS.follow
    rcases h with ⟨h1, h2⟩ | ⟨m, h1, h2, h3, h4, h5, h6⟩
    · rw [show (s.lays (setE s.xs a l n)).mv = s.mv from rfl, h1]
      exact .inl ⟨h1, h2⟩
    · rw [show (s.lays (setE s.xs a l n)).mv = s.mv from rfl, h1]
      dsimp only
      split
      · exact .inl ⟨rfl, by show wrap64 (s.bs + 1) = B + 1; rw [h3, hB]⟩
      · have hsm := notes_same [⟨a, l, n⟩] m
        have hnl := notes_len [⟨a, l, n⟩] m
        refine .inr ⟨m.notes [⟨a, l, n⟩], rfl, by rw [hsm.k]; exact h2, h3, by rw [hsm.ph]; exact h4, fun q => ?_, fun q => ?_⟩
        · show (npast (setE s.xs a l n) (m.notes [⟨a, l, n⟩]) : Int) ≤ _
          rw [npast_same hsm]
          have := npast_set s.xs m a l n
          have := h5 q
          omega
        · have := h6 q
          simp at hnl
          omega

end Go.Proofs.YtglbamalagacgaaGreat

namespace Go.Proofs.YtglbamalagacgaaGreat
open Go.RowKit Go.Shelf

-- THE TABLE WITH A COUNT OF CALLS BESIDE IT, and what holds of the two
def tabI (Inv : TS → Nat → Prop) : TabC where
  S := TS × Nat
  T w t s A := tab3.T w t s.1 A ∧ Inv s.1 s.2
  xs s := s.1.xs
  bud s := s.1.b
  act s := s.1.act
  tgt s := tgtM s.1.mv
  lgd s := lgdM s.1.mv
  log s := (s.1.lim, s.1.ch)
  cnt s := s.2
  lt := fun h => tab3.lt h.1
  kept := fun h hk => ⟨tab3.kept h.1 hk, h.2⟩
  sorted := fun h => tab3.sorted h.1
  ok := fun h => tab3.ok h.1
  nums := fun h => tab3.nums h.1

theorem tabI_works {Inv : TS → Nat → Prop} (hone : ∀ s j a l n, s.Ok → Inv s j → Inv (s.one a l n).2 (j + 1)) : (tabI Inv).Works where
  add := by
    rintro w t ⟨s, j⟩ A a l n ⟨⟨hs, e, pm, F, H, hT, rfl⟩, hI⟩
    have hc := tabAdd3_any w t e s pm F H a l n hT hs
    unfold TS.add at hc
    by_cases h1 : isPfx a l = false
    · rw [if_pos h1] at hc
      refine hc.mono ?_
      rintro r w' ⟨e', pm', F', H', q1, q2, q3, q4⟩
      exact ⟨_, (s, j), _, q1, ⟨2, rfl, .inl ⟨h1, rfl, rfl⟩⟩, ⟨⟨hs, e', pm', F', H', q2, rfl⟩, hI⟩, q3, q4, rfl⟩
    rw [if_neg h1] at hc
    have hp : isPfx a l = true := by simpa using h1
    by_cases h2 : 1 ≤ n ∧ n ≤ 255
    · rw [if_neg (fun h => h h2)] at hc
      obtain ⟨o1, o2, o3, o4⟩ := one_ok hs a l n
      refine hc.mono ?_
      rintro r w' ⟨e', pm', F', H', q1, q2, q3, q4⟩
      have hnx := hone s j a l n hs hI
      rcases one_cases s a l n with ⟨h3, _⟩ | ⟨_, _, h4, h5⟩ | ⟨_, _, h5⟩
      · exact absurd (chg_none hp h2.1 h2.2) h3
      · have hg : getE s.xs a l = none := by
          cases hg : getE s.xs a l with
          | none => rfl
          | some v =>
            exfalso
            have hP : needK s.k (setE s.xs a l n) = needK s.k s.xs := by rw [setE, if_neg (by omega)]; exact needK_put hs.sorted hs.ok ⟨hp, h2⟩ hg
            have hA : s.act = needK s.k s.xs := rfl
            omega
        rw [h5] at q1 q2
        exact ⟨_, (s, j), _, q1, ⟨6, rfl, .inr (.inr (.inl ⟨hp, h2.1, h2.2, hg, rfl, rfl⟩))⟩, ⟨⟨hs, e', pm', F', H', q2, rfl⟩, hI⟩, q3, q4, rfl⟩
      · refine ⟨_, ((s.one a l n).2, j + 1), _, q1, ⟨_, rfl, .inr (.inr (.inr ⟨hp, h2.1, h2.2, ?_, o3, ⟨o2, Nat.le_refl _⟩, ?_⟩))⟩, ⟨⟨o1, e', pm', F', H', q2, rfl⟩, hnx⟩, q3, q4, ?_⟩
        · show (s.one a l n).2.xs = _; rw [h5]; exact follow_xs _ _ _ _
        · rw [h5]
        · show ((s.one a l n).2.lim, (s.one a l n).2.ch) = (s.lim, s.ch); rw [o4.1, o4.2]
    · rw [if_pos h2] at hc
      refine hc.mono ?_
      rintro r w' ⟨e', pm', F', H', q1, q2, q3, q4⟩
      exact ⟨_, (s, j), _, q1, ⟨3, rfl, .inr (.inl ⟨hp, h2, rfl, rfl⟩)⟩, ⟨⟨hs, e', pm', F', H', q2, rfl⟩, hI⟩, q3, q4, rfl⟩
  del := by
    rintro w t ⟨s, j⟩ A a l ⟨⟨hs, e, pm, F, H, hT, rfl⟩, hI⟩
    obtain ⟨o1, o2, o3, o4⟩ := one_ok hs a l 0
    have hnx := hone s j a l 0 hs hI
    refine (tabDelete3_any w t e s pm F H a l hT hs).mono ?_
    rintro r w' ⟨e', pm', F', H', q1, q2, q3, q4⟩
    by_cases h1 : isPfx a l = false
    · have hce : chgE s.xs a l 0 = 2 := by unfold chgE; rw [if_pos h1]
      rcases one_cases s a l 0 with ⟨_, h5⟩ | ⟨h3, _⟩ | ⟨h3, _⟩
      · rw [h5, hce] at q1
        rw [h5] at q2
        exact ⟨_, (s, j), _, q1, ⟨2, rfl, .inl ⟨h1, rfl, rfl⟩⟩, ⟨⟨hs, e', pm', F', H', q2, rfl⟩, hI⟩, q3, q4, rfl⟩
      · omega
      · omega
    have hp : isPfx a l = true := by simpa using h1
    cases hg : getE s.xs a l with
    | none =>
      have hce : chgE s.xs a l 0 = 5 := by unfold chgE; rw [if_neg h1, if_neg (by omega), if_pos ⟨rfl, hg⟩]
      rcases one_cases s a l 0 with ⟨_, h5⟩ | ⟨h3, _⟩ | ⟨h3, _⟩
      · rw [h5, hce] at q1
        rw [h5] at q2
        exact ⟨_, (s, j), _, q1, ⟨5, rfl, .inr (.inl ⟨hp, hg, rfl, rfl⟩)⟩, ⟨⟨hs, e', pm', F', H', q2, rfl⟩, hI⟩, q3, q4, rfl⟩
      · omega
      · omega
    | some v =>
      have hce : chgE s.xs a l 0 = 0 := by unfold chgE; rw [if_neg h1, if_neg (by omega), if_neg (by rw [hg]; simp)]
      have hsm : (getE s.xs a l).isSome = true := by rw [hg]; rfl
      rcases one_cases s a l 0 with ⟨h3, _⟩ | ⟨_, _, h4, _⟩ | ⟨_, _, h5⟩
      · exact absurd hce h3
      · exfalso
        have hP : needK s.k (setE s.xs a l 0) ≤ needK s.k s.xs := by rw [setE, if_pos rfl]; exact needK_del hs.sorted hs.ok
        have hA : s.act = needK s.k s.xs := rfl
        omega
      · refine ⟨_, ((s.one a l 0).2, j + 1), _, q1, ⟨_, rfl, .inr (.inr ⟨hp, hsm, ?_, o3, ⟨o2, Nat.le_refl _⟩, ?_⟩)⟩, ⟨⟨o1, e', pm', F', H', q2, rfl⟩, hnx⟩, q3, q4, ?_⟩
        · show (s.one a l 0).2.xs = _; rw [h5]; exact follow_xs _ _ _ _
        · rw [h5]
        · show ((s.one a l 0).2.lim, (s.one a l 0).2.ch) = (s.lim, s.ch); rw [o4.1, o4.2]
  cells := fun w t s A h => tab3_works.cells w t s.1 A h.1

theorem tabI_apps {Inv : TS → Nat → Prop} (happ : ∀ s j cs, s.Ok → Inv s j → Inv (s.apply cs).2.2 (j + 1)) : (tabI Inv).Apps := by
  rintro w t ⟨s, j⟩ A v cs ⟨⟨hs, e, pm, F, H, hT, rfl⟩, hI⟩ hv hva
  refine (apply3_any w t e s pm F H v cs hT hs hv hva).mono ?_
  rintro r w' ⟨pm', F', H', rfl, q1, q2, q3⟩
  obtain ⟨f1, f2, f3⟩ := apply_fits hs cs
  have hok := apply_ok hs cs
  have hlg := apply_log hs cs
  have hnx := happ s j cs hs hI
  by_cases h1 : 16 < cs.length
  · have e1 : s.apply cs = (0, 12, s) := by unfold TS.apply; rw [if_pos h1]
    rw [e1] at q1 ⊢
    exact ⟨_, (s, j), _, rfl, ⟨_, _, rfl, .inl ⟨h1, rfl, rfl, rfl⟩⟩, ⟨⟨hs, e, pm', F', H', q1, rfl⟩, hI⟩, q2, q3, rfl⟩
  by_cases h2 : (tryX cs s.xs 0).2.2 ≠ 0
  · have e1 : s.apply cs = ((((tryX cs s.xs 0).2.1 : Nat) : Int), (tryX cs s.xs 0).2.2, s) := by unfold TS.apply; rw [if_neg h1, if_pos h2]
    rw [e1] at q1 ⊢
    exact ⟨_, (s, j), _, rfl, ⟨_, _, rfl, .inr (.inl ⟨by omega, h2, rfl, rfl, rfl⟩)⟩, ⟨⟨hs, e, pm', F', H', q1, rfl⟩, hI⟩, q2, q3, rfl⟩
  have h2' : (tryX cs s.xs 0).2.2 = 0 := Decidable.not_not.1 h2
  by_cases h3 : s.b < needK s.k (tryX cs s.xs 0).1 ∧ needK s.k s.xs < needK s.k (tryX cs s.xs 0).1
  · have e1 : s.apply cs = (((cs.length : Nat) : Int), 6, s) := by unfold TS.apply; rw [if_neg h1, if_neg h2, if_pos h3]
    rw [e1] at q1 ⊢
    exact ⟨_, (s, j), _, rfl, ⟨_, _, rfl, .inr (.inr (.inl ⟨by omega, h2', rfl, rfl, rfl⟩))⟩, ⟨⟨hs, e, pm', F', H', q1, rfl⟩, hI⟩, q2, q3, rfl⟩
  · have e1 : s.apply cs = (((cs.length : Nat) : Int), 0, (s.lays (tryX cs s.xs 0).1).follow cs s.use) := by unfold TS.apply; rw [if_neg h1, if_neg h2, if_neg h3]
    refine ⟨_, ((s.apply cs).2.2, j + 1), _, rfl, ⟨_, _, rfl, .inr (.inr (.inr ⟨by omega, h2', ?_, f2, ⟨f1, Nat.le_refl _⟩, by rw [e1], by rw [e1]⟩))⟩, ⟨⟨hok, e, pm', F', H', q1, rfl⟩, hnx⟩, q2, q3, hlg⟩
    show (s.apply cs).2.2.xs = _
    rw [e1]
    exact follow_xs _ _ _ _

theorem tabI_goes {Inv : TS → Nat → Prop} (hset : ∀ s j n, Inv s j → Inv { s with b := n } (j + 1)) (hmv : ∀ s j k, s.Ok → Inv s j → Inv (s.move k).2 (j + 1)) (hst : ∀ s j, s.Ok → Inv s j → Inv s.step.2 (j + 1)) (hab : ∀ s j, s.Ok → Inv s j → Inv s.abort.2 (j + 1)) : (tabI Inv).Goes where
  set := by
    rintro w t ⟨s, j⟩ A n ⟨⟨hs, e, pm, F, H, hT, rfl⟩, hI⟩
    refine (setBudget_any w t e s pm F H n hT).mono ?_
    rintro r w' (⟨h1, rfl, rfl⟩ | ⟨h1, h2, rfl, q1, q2⟩)
    · exact ⟨_, (s, j), _, rfl, ⟨11, rfl, .inr ⟨h1, rfl⟩, rfl, TabC.fits_refl _ _⟩, ⟨⟨hs, e, pm, F, H, hT, rfl⟩, hI⟩, NewF.refl _ _, Only.refl _ _, rfl⟩
    · exact ⟨_, ({ s with b := n }, j + 1), _, rfl, ⟨0, rfl, .inl ⟨h1, h2, rfl⟩, rfl, ⟨.inl (Int.le_refl _), Nat.le_refl _⟩⟩, ⟨⟨setb_ok hs h1 h2, e, pm, F, H, q1, rfl⟩, hset s j n hI⟩, NewF.refl _ _, q2.mono (fun x hx _ => by simp at hx; simp [hx]), rfl⟩
  move := by
    rintro w t ⟨s, j⟩ A n ⟨⟨hs, e, pm, F, H, hT, rfl⟩, hI⟩
    obtain ⟨o1, o2, o3, o4, o5⟩ := move_ok hs n
    refine (tmove_any w t e s pm F H n hT).mono ?_
    rintro r w' ⟨e', pm', F', H', q1, q2, q3, q4⟩
    exact ⟨_, ((s.move n).2, j + 1), _, q1, ⟨o2, o3, Nat.le_refl _⟩, ⟨⟨o1, e', pm', F', H', q2, rfl⟩, hmv s j n hs hI⟩, q3, q4, by show ((s.move n).2.lim, (s.move n).2.ch) = (s.lim, s.ch); rw [o5, move_ch]⟩
  step := by
    rintro w t ⟨s, j⟩ A ⟨⟨hs, e, pm, F, H, hT, rfl⟩, hI⟩
    have h := step_ok hs
    refine (tstep_any w t e s pm F H hT hs).mono ?_
    rintro r w' ⟨e', pm', F', H', q1, q2, q3, q4⟩
    exact ⟨_, (s.step.2, j + 1), _, q1, ⟨h.xs, h.fits, Nat.le_refl _⟩, ⟨⟨h.ok, e', pm', F', H', q2, rfl⟩, hst s j hs hI⟩, q3, q4, by show (s.step.2.lim, s.step.2.ch) = (s.lim, s.ch); rw [h.lim, h.ch]⟩
  abort := by
    rintro w t ⟨s, j⟩ A ⟨⟨hs, e, pm, F, H, hT, rfl⟩, hI⟩
    obtain ⟨o1, o2, o3, o4, o5⟩ := abort_ok hs
    refine (tabort_any w t e s pm F H hT).mono ?_
    rintro r w' ⟨e', pm', F', H', q1, q2, q3, q4⟩
    exact ⟨_, (s.abort.2, j + 1), _, q1, ⟨o2, o3, Nat.le_refl _⟩, ⟨⟨o1, e', pm', F', H', q2, rfl⟩, hab s j hs hI⟩, q3, q4, by show (s.abort.2.lim, s.abort.2.ch) = (s.lim, s.ch); rw [o5, abort_ch]⟩

theorem tabI_news {Inv : TS → Nat → Prop} (hn : ∀ cf, isCfg cf → Inv ⟨[], cf.e, cf.b, cf.c, cf.l, none, 0, 0⟩ 0) : (tabI Inv).News := ⟨new_no, fun w cf h => (new_yes w cf h).mono (by
  rintro r w' ⟨t, e, F, h1, h2, h3, h4, h5⟩
  have hi := hn cf h
  obtain ⟨d1, d2, d3, d4, d5, d6, d7, d8⟩ := h
  exact ⟨t, (⟨[], cf.e, cf.b, cf.c, cf.l, none, 0, 0⟩, 0), t :: (F ++ []), h1, h2, ⟨⟨⟨List.Pairwise.nil, by simp, d1, d2, d3, d4, d5, d6, d7, d8, fun m hm => by cases hm⟩, e, .pointer none, F, [], h3, rfl⟩, hi⟩, fun k hk => by
    simp only [List.mem_cons, List.mem_append, List.not_mem_nil, or_false] at hk
    rcases hk with rfl | hk
    · exact h4
    · exact h5 k hk, rfl, rfl, rfl⟩)⟩

end Go.Proofs.YtglbamalagacgaaGreat

namespace Go.Proofs.YtglbamalagacgaaGreat
open Go.RowKit Go.Shelf

-- HOW OFTEN A TABLE WAS ROLLED BACK
def mvN : Option Mv → Int
  | none => 0
  | some _ => 1
theorem wrap_in (n : Int) (h : -9223372036854775808 ≤ n ∧ n ≤ 9223372036854775807) : wrap64 n = n := by unfold wrap64; omega
def Inv0 (s : TS) (j : Nat) : Prop := j < 9223372036854775816 → 0 ≤ s.bs ∧ 2 * s.bs + mvN s.mv ≤ j
theorem Inv0.back {s : TS} {m : Mv} {j : Nat} (h : Inv0 s j) (hm : s.mv = some m) : Inv0 s.back (j + 1) := fun hj => by
  obtain ⟨h1, h2⟩ := h (by omega)
  have h3 : mvN s.mv = 1 := by rw [hm]; rfl
  have e : s.back.bs = s.bs + 1 := by show wrap64 (s.bs + 1) = _; exact wrap_in _ (by omega)
  have e2 : mvN s.back.mv = 0 := rfl
  omega
theorem Inv0.mono {s : TS} {j : Nat} (h : Inv0 s j) : Inv0 s (j + 1) := fun hj => by
  obtain ⟨h1, h2⟩ := h (by omega)
  omega
theorem Inv0.as {s s' : TS} {j : Nat} (h : Inv0 s j) (h1 : s'.bs = s.bs) (h2 : mvN s'.mv ≤ mvN s.mv + 1) : Inv0 s' (j + 1) := fun hj => by
  obtain ⟨h1, h2⟩ := h (by omega)
  omega
theorem mvN_le (m : Option Mv) : mvN m ≤ 1 := by cases m <;> simp [mvN]
theorem mvN_nn (m : Option Mv) : 0 ≤ mvN m := by cases m <;> simp [mvN]
theorem Inv0.same {s s' : TS} {j : Nat} (h : Inv0 s j) (h1 : s'.bs = s.bs) : Inv0 s' (j + 1) := h.as h1 (by have := mvN_le s'.mv; have := mvN_nn s.mv; omega)
theorem Inv0.follow {s : TS} {j : Nat} (h : Inv0 s j) (cs : List Chg) (u : Int) : Inv0 (s.follow cs u) (j + 1) := by
  unfold TS.follow
  split
  · exact h.mono
  · rename_i m hm
    split
    · exact h.back hm
    · exact h.same rfl
theorem Inv0.apply {s : TS} {j : Nat} (h : Inv0 s j) (cs : List Chg) : Inv0 (s.apply cs).2.2 (j + 1) := by
  unfold TS.apply
  split
  · exact h.mono
  split
  · exact h.mono
  split
  · exact h.mono
  · exact Inv0.follow (s := s.lays (tryX cs s.xs 0).1) h cs _
theorem cpRun_shape (s : TS) : ∀ (rest : List Ent) (n : Nat) (m : Mv), (∃ m', (cpRun s rest n m).2 = s.at m') ∨ (cpRun s rest n m).2 = s.back
  | [], n, m => .inl ⟨_, rfl⟩
  | x :: rest, n, m => by
    rw [cpRun]
    split
    · exact cpRun_shape s rest n m
    split
    · exact .inl ⟨_, rfl⟩
    split
    · exact .inr rfl
    · exact cpRun_shape s rest (n + 1) _
theorem ctRun_shape (s : TS) : ∀ (n : Nat) (m : Mv), (∃ m', (ctRun s n m).2 = s.at m' ∨ (ctRun s n m).2 = s.cut m') ∨ (ctRun s n m).2 = s.back
  | 0, m => by
    rw [ctRun]
    split
    · exact .inl ⟨_, .inr rfl⟩
    · exact .inl ⟨_, .inl rfl⟩
  | n + 1, m => by
    rw [ctRun]
    split
    · exact .inr rfl
    · exact ctRun_shape s n _
theorem Inv0.step {s : TS} {j : Nat} (h : Inv0 s j) : Inv0 s.step.2 (j + 1) := by
  unfold TS.step
  split
  · exact h.mono
  · rename_i m hm
    split
    · rcases cpRun_shape s (fromE s.xs m.ca m.cl) 0 m with ⟨m', e⟩ | e
      · rw [e]; exact h.same rfl
      · rw [e]; exact h.back hm
    · rcases ctRun_shape s (min s.ch.toNat m.lg.length) m with ⟨m', e | e⟩ | e
      · rw [e]; exact h.same rfl
      · rw [e]; exact h.same rfl
      · rw [e]; exact h.back hm
theorem Inv0.move {s : TS} {j : Nat} (h : Inv0 s j) (k : Int) : Inv0 (s.move k).2 (j + 1) := by
  unfold TS.move
  split
  · exact h.mono
  split
  · exact h.mono
  split
  · exact h.mono
  split
  · exact h.mono
  · exact h.same rfl
theorem Inv0.abort {s : TS} {j : Nat} (h : Inv0 s j) : Inv0 s.abort.2 (j + 1) := by
  unfold TS.abort
  split
  · exact h.mono
  · rename_i m hm
    exact h.back hm
theorem inv0_new (cf : Cfg) : Inv0 ⟨[], cf.e, cf.b, cf.c, cf.l, none, 0, 0⟩ 0 := fun _ => ⟨Int.le_refl _, by show 2 * (0 : Int) + 0 ≤ 0; omega⟩

-- what Move answers behind Abort
theorem needK_nil_le {k : Int} : needK k [] ≤ 1 := by
  unfold needK
  split
  · simp
  split
  · have : trieN [] = 1 := by decide +kernel
    omega
  · have : (strL []).length = 1 := by decide +kernel
    simp [this]
theorem move_cases (s : TS) (k : Int) (hm : s.mv = none) : (s.move k = (7, s) ∧ ¬ (1 ≤ k ∧ k ≤ 3)) ∨ (s.move k = (9, s) ∧ 1 ≤ k ∧ k ≤ 3 ∧ k = s.k) ∨ (s.move k = (6, s) ∧ 1 ≤ k ∧ k ≤ 3 ∧ s.b < s.act + 1) ∨ s.move k = (0, s.at (mv0 k)) := by
  unfold TS.move
  by_cases h1 : ¬ (1 ≤ k ∧ k ≤ 3)
  · rw [if_pos h1]; exact .inl ⟨rfl, h1⟩
  rw [if_neg h1, if_neg (by rw [hm]; simp)]
  have h1' : 1 ≤ k ∧ k ≤ 3 := by omega
  by_cases h2 : k = s.k
  · rw [if_pos h2]; exact .inr (.inl ⟨rfl, h1'.1, h1'.2, h2⟩)
  rw [if_neg h2]
  have := needK_nil_le (k := k)
  by_cases h3 : s.b < s.act + needK k [] ∧ s.act < s.act + needK k []
  · rw [if_pos h3]; exact .inr (.inr (.inl ⟨rfl, h1'.1, h1'.2, by omega⟩))
  · rw [if_neg h3]; exact .inr (.inr (.inr rfl))
theorem abort_mv (s : TS) : s.abort.2.mv = none := by
  unfold TS.abort
  split
  · assumption
  · rfl

-- a Step and fewer than Chunk changes bring a move nearer to its end
theorem npast_le (xs : List Ent) (m : Mv) : npast xs m ≤ xs.length := List.length_filter_le _ _
theorem phi_start (s : TS) (k : Int) : phi (s.at (mv0 k)) (mv0 k) ≤ s.xs.length + 1 + s.lim := by
  have h := npast_le s.xs (mv0 k)
  unfold phi
  rw [if_pos (show (mv0 k).ph = 1 from rfl)]
  show (npast s.xs (mv0 k) : Int) + 1 + s.lim ≤ _
  omega
def endN (s : TS) (m : Mv) : Int := if m.ph = 1 then (npast s.xs m : Nat) else (m.lg.length : Nat)
theorem EndI.start {s : TS} {m : Mv} (h : s.mv = some m) : EndI s.bs m.k m.ph (endN s m) s 0 := by
  refine .inr ⟨m, h, rfl, rfl, rfl, fun q => ?_, fun q => ?_⟩
  · unfold endN; rw [if_pos q]; omega
  · unfold endN; rw [if_neg (by omega)]; omega
theorem EndI.fin {s s' s2 : TS} {m m' : Mv} {j : Nat} (hs2 : s2.Ok) (h : AftS s m s' m') (hI : EndI s'.bs m'.k m'.ph (endN s' m') s2 j) (hj : (j : Int) < s.ch) (hl : s2.lim = s.lim) : (s2.mv = none ∧ s2.bs = s.bs + 1) ∨ ∃ m2, s2.mv = some m2 ∧ s2.bs = s.bs ∧ phi s2 m2 + 1 ≤ phi s m := by
  have e : s'.bs = s.bs := by rw [h.eq]; rfl
  have ex : s'.xs = s.xs := by rw [h.eq]; rfl
  rw [e] at hI
  rcases hI with hI | ⟨m2, h1, h2, h3, h4, h5, h6⟩
  · exact .inl hI
  · refine .inr ⟨m2, h1, h3, ?_⟩
    obtain ⟨hmo, hml⟩ := hs2.mv m2 h1
    have hl1 := hs2.l1
    unfold phi
    unfold endN at h5 h6
    rw [ex] at h5
    rcases h.goes with ⟨g1, g2, g3⟩ | ⟨g1, g2⟩ | ⟨g1, g2, g3, g4⟩
    · rw [if_pos (by omega), if_pos g1]
      have := h5 g2
      rw [if_pos g2] at this
      omega
    · rw [if_neg (by omega), if_pos g1]
      omega
    · rw [if_neg (by omega), if_neg (by omega)]
      have := h6 g2
      rw [if_neg (by omega)] at this
      omega

end Go.Proofs.YtglbamalagacgaaGreat

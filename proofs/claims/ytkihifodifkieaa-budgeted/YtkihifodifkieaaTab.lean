import Derived.Test.YtkihifodifkieaaApl
namespace Go.Proofs.Ytkihifodifkieaa
open Go.RowKit Go.Shelf

attribute [local go_sem] Oper.semAt_some

def OnePost (w : World) (t : Nat) (e : Value) (b : Int) (xs : List Ent) (F : List Nat) (a l n : Int) (r : Ending) (w' : World) : Prop :=
  ∃ er ys F', r = .returned (.int .i64 er) ∧ TabF w' t e b ys F' ∧ NewF w F F' ∧ Only F w w' ∧
    ((chgE xs a l n ≠ 0 ∧ er = chgE xs a l n ∧ ys = xs) ∨ (chgE xs a l n = 0 ∧ er = 6 ∧ ys = xs ∧ needK (kindE e) xs < needK (kindE e) (setE xs a l n)) ∨ (chgE xs a l n = 0 ∧ er = 0 ∧ ys = setE xs a l n ∧ (needK (kindE e) ys ≤ needK (kindE e) xs ∨ needK (kindE e) ys ≤ b)))

theorem TabF.later {w w' : World} {t : Nat} {e : Value} {b : Int} {xs : List Ent} {F : List Nat} (h : TabF w t e b xs F) (hB : Below w.heap.size w w') : TabF w' t e b xs F := h.kept (hB.block _ h.lt) fun k hk => hB.block k (h.eng.lt k hk)

theorem addZ (A : Addr) : A.add 0 = A := by unfold Addr.add; rw [if_pos rfl]
set_option maxHeartbeats 400000 in
theorem applyOne_any (w : World) (t : Nat) (e : Value) (b : Int) (xs : List Ent) (F : List Nat) (a l n : Int) (hT : TabF w t e b xs F) :
    Calls Try.prog 30 #[ptrV t, pfxV a l, .int .i64 n] w (OnePost w t e b xs F a l n) := by
  have hB : Below w.heap.size w ((w.alloc (.cells #[.int .i64 a, .int .i64 l] 54)).alloc (.cells #[.int .i64 a, .int .i64 l, .int .i64 n] 72)) := ((Below.refl _ w).alloc (Nat.le_refl _) _).alloc (by simp) _
  have hFl := hT.eng.lt
  have tl := hT.lt
  have hs1 : w.heap.size + 1 = (w.alloc (.cells #[.int .i64 a, .int .i64 l] 54)).heap.size := by simp
  have hap := hide (apply_any _ t e b xs F (.slice (some ⟨w.heap.size + 1, 0, none⟩) 1 1) [⟨a, l, n⟩] (hT.later hB)
    ⟨some ⟨w.heap.size + 1, 0, none⟩, 1, rfl, by unfold maxLen; simp, fun i x hx => by
      have hi : i = 0 := by have := (List.getElem?_eq_some_iff.1 hx).1; simpa using this
      subst hi
      simp at hx
      subst hx
      refine ⟨_, rfl, by simp, ?_, ?_, ?_⟩ <;> (simp only [Nat.zero_mul, addZ]; rw [hs1]; simp)⟩
    (fun A m cap h _ hk => by
      cases h
      simp at hk
      rcases hk with hk | hk
      · omega
      · have := hFl _ hk; omega))
  have HB := hide hB
  clear hB hT hs1
  go_enter Try.func30, Try.ntmps30
  go_wp2_with fail
  refine hap.out.mono ?_
  rintro r w2 ⟨m, er, ys, F', rfl, h1, h2, h3, h4⟩
  have fin := hide (show OnePost w t e b xs F a l n (.returned (.int .i64 er)) w2 from by
    have hs := HB.out.size
    refine ⟨er, ys, F', rfl, h1, fun k hk => (h2 k hk).imp id fun h => by omega, (Only.of_below _ HB.out).trans h3 (fun x hx => .inl hx), ?_⟩
    rw [tryX_cons] at h4
    simp only [tryX, List.length_cons, List.length_nil] at h4
    by_cases h0 : chgE xs a l n = 0
    · rw [if_pos h0] at h4
      rcases h4 with ⟨h5, _⟩ | ⟨_, h5, _⟩ | ⟨_, _, _, h5, h6, h7⟩ | ⟨_, _, _, h5, h6, h7⟩
      · omega
      · exact absurd rfl h5
      · exact .inr (.inl ⟨h0, h5, h6, h7⟩)
      · exact .inr (.inr ⟨h0, h5, h6, h7⟩)
    · rw [if_neg h0] at h4
      rcases h4 with ⟨h5, _⟩ | ⟨_, _, _, h5, h6⟩ | ⟨_, h5, _⟩ | ⟨_, h5, _⟩
      · omega
      · exact .inl ⟨h0, h5, h6⟩
      · exact absurd h5 h0
      · exact absurd h5 h0)
  clear h1 h2 h3 h4 hap
  go_wp2
  go_ret
  exact fin.out

theorem OnePost.back {w w1 w' : World} {t : Nat} {e : Value} {b : Int} {xs : List Ent} {F : List Nat} {a l n : Int} {r : Ending} (h : OnePost w1 t e b xs F a l n r w') (hB : Below w.heap.size w w1) : OnePost w t e b xs F a l n r w' := by
  obtain ⟨er, ys, F', h1, h2, h3, h4, h5⟩ := h
  have := hB.size
  exact ⟨er, ys, F', h1, h2, fun k hk => (h3 k hk).imp id fun h => by omega, (Only.of_below _ hB).trans h4 (fun x hx => .inl hx), h5⟩

set_option maxHeartbeats 400000 in
theorem tabDelete_any (w : World) (t : Nat) (e : Value) (b : Int) (xs : List Ent) (F : List Nat) (a l : Int) (hT : TabF w t e b xs F) :
    Calls Try.prog 21 #[ptrV t, pfxV a l] w (OnePost w t e b xs F a l 0) := by
  have hB : Below w.heap.size w (w.alloc (.cells #[.int .i64 a, .int .i64 l] 54)) := (Below.refl _ w).alloc (Nat.le_refl _) _
  have h1 := hide (applyOne_any _ t e b xs F a l 0 (hT.later hB))
  have HB := hide hB
  clear hB hT
  go_enter Try.func21, Try.ntmps21
  go_wp2_with fail
  refine h1.out.mono ?_
  rintro r w2 hp
  have fin := hide (hp.back HB.out)
  obtain ⟨er, ys, F', rfl, _⟩ := hp
  go_wp2
  go_ret
  exact fin.out

def AddPost (w : World) (t : Nat) (e : Value) (b : Int) (xs : List Ent) (F : List Nat) (a l n : Int) (r : Ending) (w' : World) : Prop :=
  (isPfx a l = false ∧ r = .returned (.int .i64 2) ∧ Below w.heap.size w w') ∨ (isPfx a l = true ∧ ¬ (1 ≤ n ∧ n ≤ 255) ∧ r = .returned (.int .i64 3) ∧ Below w.heap.size w w') ∨ (isPfx a l = true ∧ 1 ≤ n ∧ n ≤ 255 ∧ OnePost w t e b xs F a l n r w')

set_option maxHeartbeats 400000 in
theorem tabAdd_any (w : World) (t : Nat) (e : Value) (b : Int) (xs : List Ent) (F : List Nat) (a l n : Int) (hT : TabF w t e b xs F) :
    Calls Try.prog 18 #[ptrV t, pfxV a l, .int .i64 n] w (AddPost w t e b xs F a l n) := by
  have hB : Below w.heap.size w (w.alloc (.cells #[.int .i64 a, .int .i64 l] 54)) := (Below.refl _ w).alloc (Nat.le_refl _) _
  have HB := hide hB
  by_cases h1 : isPfx a l = false
  · clear hB hT
    go_enter Try.func18, Try.ntmps18
    go_wp2_with fail
    refine (valid_no a l _ h1).mono ?_
    rintro _ w2 ⟨rfl, hb2⟩
    have fin := hide (HB.out.trans (hb2.mono HB.out.size))
    clear hb2
    go_wp2
    go_ret
    exact .inl ⟨h1, rfl, fin.out⟩
  have hp : isPfx a l = true := by simpa using h1
  by_cases h2 : 1 ≤ n ∧ n ≤ 255
  · clear h1
    go_enter Try.func18, Try.ntmps18
    go_wp2_with fail
    refine (valid_yes a l _ hp).mono ?_
    rintro _ w2 ⟨rfl, hb2⟩
    have hBw := HB.out.trans (hb2.mono HB.out.size)
    have HBw := hide hBw
    have p0 : w2.cell? ⟨w.heap.size, 0, none⟩ = some (.int .i64 a) := (hb2.cell (p := ⟨w.heap.size, 0, none⟩) (by simp)).trans (by simp)
    have p1 : w2.cell? ⟨w.heap.size, 1, none⟩ = some (.int .i64 l) := (hb2.cell (p := ⟨w.heap.size, 1, none⟩) (by simp)).trans (by simp)
    have hone := hide (applyOne_any w2 t e b xs F a l n (hT.later hBw))
    clear hb2 hBw hT hB
    go_wp2_with fail
    refine (isNext_yes n _ h2).mono ?_
    rintro _ w2 ⟨rfl, rfl⟩
    go_wp2_with fail
    refine hone.out.mono ?_
    rintro r w3 hq
    have fin := hide (hq.back HBw.out)
    obtain ⟨er, ys, F', rfl, _⟩ := hq
    go_wp2
    go_ret
    exact .inr (.inr ⟨hp, h2.1, h2.2, fin.out⟩)
  · clear hB hT h1
    go_enter Try.func18, Try.ntmps18
    go_wp2_with fail
    refine (valid_yes a l _ hp).mono ?_
    rintro _ w2 ⟨rfl, hb2⟩
    have fin := hide (HB.out.trans (hb2.mono HB.out.size))
    clear hb2
    go_wp2_with fail
    refine (isNext_no n _ h2).mono ?_
    rintro _ w2 ⟨rfl, rfl⟩
    go_wp2
    go_ret
    exact .inr (.inl ⟨hp, h2, rfl, fin.out⟩)

end Go.Proofs.Ytkihifodifkieaa

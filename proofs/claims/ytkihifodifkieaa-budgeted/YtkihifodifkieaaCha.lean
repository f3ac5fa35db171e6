import Derived.Test.YtkihifodifkieaaBak
import Derived.Test.YtkihifodifkieaaChb
import Derived.Test.YtkihifodifkieaaCht
namespace Go.Proofs.Ytkihifodifkieaa
open Go.RowKit Go.Shelf

def chgE (xs : List Ent) (a l n : Int) : Int := if isPfx a l = false then 2 else if n < 0 ∨ 255 < n then 3 else if n = 0 ∧ getE xs a l = none then 5 else 0
theorem tryX_cons (x : Chg) (cs : List Chg) (xs : List Ent) (i : Nat) : tryX (x :: cs) xs i = if chgE xs x.a x.l x.n = 0 then tryX cs (setE xs x.a x.l x.n) (i + 1) else (xs, i, chgE xs x.a x.l x.n) := by
  rw [tryX]
  unfold chgE
  by_cases h1 : isPfx x.a x.l = false
  · rw [if_pos h1, if_pos h1]; simp
  rw [if_neg h1, if_neg h1]
  by_cases h2 : x.n < 0 ∨ 255 < x.n
  · rw [if_pos h2, if_pos h2]; simp
  rw [if_neg h2, if_neg h2]
  by_cases h3 : x.n = 0 ∧ getE xs x.a x.l = none
  · rw [if_pos h3, if_pos h3]; simp
  · rw [if_neg h3, if_neg h3]; simp

def ChgPost (bt : Nat) (ve : Value) (us : List Ud) (G : List Nat) (xs : List Ent) (F : List Nat) (a l n : Int) (w : World) (r : Ending) (w' : World) : Prop :=
  r = .returned (.int .i64 (chgE xs a l n)) ∧ ∃ F' G' us', EngF w' ve (if chgE xs a l n = 0 then setE xs a l n else xs) F' ∧ BatchF w' bt ve us' G' ∧ NewF w F F' ∧ NewF w G G' ∧ Disj F' G' ∧ Only (F ++ G) w w' ∧ us'.length ≤ us.length + 1 ∧
    (∀ x0, back xs us = x0 → back (if chgE xs a l n = 0 then setE xs a l n else xs) us' = x0) ∧ ((∀ u ∈ us, UdOk u) → ∀ u ∈ us', UdOk u)

theorem old_ok {xs : List Ent} {a l : Int} (ho : ∀ x ∈ xs, okE x) : orZ (getE xs a l) = 0 ∨ okE ⟨a, l, orZ (getE xs a l)⟩ := by
  cases hg : getE xs a l with
  | none => exact .inl rfl
  | some v =>
    obtain ⟨y, h1, rfl, rfl, rfl⟩ := getE_mem hg
    exact .inr (ho y h1)

theorem change_any (bt : Nat) (ve : Value) (us : List Ud) (G : List Nat) (xs : List Ent) (F : List Nat) (a l n : Int) (w : World) (hb : BatchF w bt ve us G) (hE : EngF w ve xs F) (hd : Disj F G) (hus : us.length ≤ 100) :
    Calls Try.prog 32 #[ptrV bt, chgV a l n] w (ChgPost bt ve us G xs F a l n w) := by
  have hlt : ∀ k ∈ G, k < w.heap.size := hb.lt
  by_cases h1 : isPfx a l = false
  · have hc : chgE xs a l n = 2 := by unfold chgE; rw [if_pos h1]
    refine (change_pfx bt a l n w h1).mono ?_
    rintro r w' ⟨hB, rfl⟩
    unfold ChgPost
    rw [hc]
    exact ⟨rfl, F, G, us, hE.later hB, hb.later hB, NewF.refl _ _, NewF.refl _ _, hd, Only.of_below _ hB, by omega, fun _ h => h, fun h => h⟩
  have hp : isPfx a l = true := by simpa using h1
  by_cases h2 : n < 0 ∨ 255 < n
  · have hc : chgE xs a l n = 3 := by unfold chgE; rw [if_neg h1, if_pos h2]
    refine (change_next bt a l n w hp h2).mono ?_
    rintro r w' ⟨hB, rfl⟩
    unfold ChgPost
    rw [hc]
    exact ⟨rfl, F, G, us, hE.later hB, hb.later hB, NewF.refl _ _, NewF.refl _ _, hd, Only.of_below _ hB, by omega, fun _ h => h, fun h => h⟩
  by_cases h3 : n = 0 ∧ getE xs a l = none
  · have hc : chgE xs a l n = 5 := by unfold chgE; rw [if_neg h1, if_neg h2, if_pos h3]
    obtain ⟨rfl, hg⟩ := h3
    refine (change_none bt ve us G xs F a l w hp hb hE hd hg).mono ?_
    rintro r w' ⟨⟨F', h4, h5⟩, hO, rfl⟩
    unfold ChgPost
    rw [hc]
    exact ⟨rfl, F', G, us, h4, hb.kept fun k hk => hO.block k (hlt k hk) (fun hf => hd k hf hk), h5, NewF.refl _ _, hd.new h5 hlt, hO.mono (fun x hx _ => by simp [hx]), by omega, fun _ h => h, fun h => h⟩
  have hc : chgE xs a l n = 0 := by unfold chgE; rw [if_neg h1, if_neg h2, if_neg h3]
  have fin : ∀ (r : Ending) (w' : World), ((∃ F' G', EngF w' ve (setE xs a l n) F' ∧ BatchF w' bt ve (us ++ [⟨a, l, orZ (getE xs a l)⟩]) G' ∧ NewF w F F' ∧ NewF w G G' ∧ Disj F' G') ∧ Only (F ++ G) w w' ∧ r = .returned (.int .i64 0)) → ChgPost bt ve us G xs F a l n w r w' := by
    rintro r w' ⟨⟨F', G', q1, q2, q3, q4, q5⟩, hO, rfl⟩
    unfold ChgPost
    rw [hc, if_pos rfl]
    refine ⟨rfl, F', G', _, q1, q2, q3, q4, q5, hO, by simp, fun x0 h => back_push hE.sorted hE.ok h, fun hu u hm => ?_⟩
    rcases List.mem_append.1 hm with hm | hm
    · exact hu u hm
    · simp at hm
      subst hm
      exact ⟨hp, old_ok hE.ok⟩
  by_cases hn : n = 0
  · subst hn
    have hsm : (getE xs a l).isSome = true := by
      cases hg : getE xs a l with
      | none => exact absurd ⟨rfl, hg⟩ h3
      | some v => rfl
    exact (change_take bt ve us G xs F a l w hp hb hE hd hus (orZ_ok hE.ok hsm)).mono fin
  · exact (change_lay bt ve us G xs F a l n w hp hb hE hd hus (by omega)).mono fin

end Go.Proofs.Ytkihifodifkieaa

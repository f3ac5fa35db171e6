import Derived.Test.YtkihifodifkieaaStm
namespace Go.Proofs.Ytkihifodifkieaa
open Go.RowKit

theorem isS_none {xs : List Ent} {b m : Int} {i : Nat} (h : getE xs b m = if FoundAt xs b m i then some (xs[i]?.getD Ent.z).n else none) (hf : FoundAt xs b m i = false) : getE xs b m = none := by rw [h, hf]; rfl

theorem delE_none {xs : List Ent} {a l : Int} (h : getE xs a l = none) : delE xs a l = xs := by
  induction xs with
  | nil => rfl
  | cons x xs ih =>
    rw [getE] at h
    split at h
    · cases h
    · rename_i hx; rw [delE, if_neg hx, ih h]

set_option maxHeartbeats 400000 in
theorem stoRemove_none (st : Nat) (v : Value) (xs : List Ent) (b m : Int) (w : World) (hS : StoreAt w st v xs) (hg : isS (getE xs b m) = false) :
    Calls Try.prog 94 #[ptrV st, pfxV b m] w fun r w' => Below w.heap.size w w' ∧ r = .returned (.tuple #[.int .i64 0, .bool false]) := by
  have hB1 : Below w.heap.size w (w.alloc (Obj.cells #[.int .i64 b, .int .i64 m] 54)) := (Below.refl _ w).alloc (Nat.le_refl _) _
  go_enter Try.func94, Try.ntmps94
  go_wp2_with fail
  refine (find_any st v xs b m _ (hS.later hB1)).mono ?_
  rintro r w1 ⟨hB, i, hp, rfl⟩
  have hge := place_get hS.2.2.2.1 hp
  have hB2 := hB1.trans (hB.mono (by simp))
  cases hf : FoundAt xs b m i with
  | true => rw [hge, hf] at hg; cases hg
  | false =>
    clear hge hf hg hp
    go_wp2
    go_ret2
    exact ⟨hB2, rfl⟩

theorem delete_new (st : Nat) (v : Value) (xs : List Ent) (i : Nat) (w1 : World) (hS : StoreAt w1 st v xs) (hi : i < xs.length) :
    Calls Try.prog 96 #[v, .int .i64 i, .int .i64 ((i : Int) + 1)] w1 fun e w' =>
      ∃ a' n' cap', e = .returned (.slice a' n' cap') ∧ RowAt w' (.slice a' n' cap') (xs.take i ++ xs.drop (i + 1)) ∧ Only v.ownBlock.toList w1 w' ∧ ((Value.slice a' n' cap').ownBlock = v.ownBlock ∨ ∃ g, (Value.slice a' n' cap').ownBlock = some g ∧ w1.heap.size ≤ g) ∧
        (∀ o, w'.cell? ⟨st, o, none⟩ = w1.cell? ⟨st, o, none⟩) ∧ (∀ o, w'.frozen? ⟨st, o, none⟩ = w1.frozen? ⟨st, o, none⟩) ∧ (Value.slice a' n' cap').ownBlock ≠ some st := by
  have hlt := hS.lt
  refine (delete_any _ v xs i hS.2.1 hi hS.2.2.2.2).mono ?_
  rintro e w' ⟨v', rfl, hr, hg, hv'⟩
  have hO : Only v.ownBlock.toList w1 w' := grownBy_only hg
  have hns : st ∉ v.ownBlock.toList := by simpa using hS.2.2.1
  obtain ⟨a', n', cap', rfl⟩ := hr.shape
  refine ⟨a', n', cap', rfl, hr, hO, hv', fun o => hO.cell hlt hns, fun o => hO.frozen hlt hns, fun h => ?_⟩
  rcases hv' with h1 | ⟨g, h1, h2⟩
  · exact hS.2.2.1 (h1 ▸ h)
  · rw [h1] at h; cases h; omega

set_option maxHeartbeats 400000 in
theorem stoRemove_some (st : Nat) (v : Value) (xs : List Ent) (b m : Int) (w : World) (hS : StoreAt w st v xs) (hg : isS (getE xs b m) = true) :
    Calls Try.prog 94 #[ptrV st, pfxV b m] w fun r w' => (∃ v', StoreAt w' st v' (delE xs b m) ∧ (v'.ownBlock = v.ownBlock ∨ ∃ g, v'.ownBlock = some g ∧ w.heap.size ≤ g)) ∧ Only (st :: v.ownBlock.toList) w w' ∧ r = .returned (.tuple #[.int .i64 (orZ (getE xs b m)), .bool true]) := by
  have hB1 : Below w.heap.size w (w.alloc (Obj.cells #[.int .i64 b, .int .i64 m] 54)) := (Below.refl _ w).alloc (Nat.le_refl _) _
  go_enter Try.func94, Try.ntmps94
  go_wp2_with fail
  refine (find_any st v xs b m _ (hS.later hB1)).mono ?_
  rintro r w1 ⟨hB, i, hp, rfl⟩
  have hge := place_get hS.2.2.2.1 hp
  have hB2 := hB1.trans (hB.mono (by simp))
  have hS1 := hS.later hB2
  cases hf : FoundAt xs b m i with
  | false => rw [hge, hf] at hg; cases hg
  | true =>
    have hdel := place_del hS.2.2.2.1 hp hf
    rw [hf] at hge
    simp only [if_true] at hge
    have hil := found_lt hf
    have hlim := hS.2.2.2.2
    obtain ⟨g, cap, hv⟩ : ∃ g cap, v = .slice (some ⟨g, 0, none⟩) xs.length cap := by
      rcases hS1.2.1 with ⟨_, rfl⟩ | ⟨g, cap, sp, rfl, _⟩
      · simp at hil
      · exact ⟨g, cap, rfl⟩
    have hx : EntsAt w1 g xs := RowAt.ents (cap := cap) (n := xs.length) (hv ▸ hS1.2.1)
    obtain ⟨x0, x1, x2⟩ := hx i hil
    have c1 := hS1.c1
    have f1 := hS1.fz 1
    have i0 : (0 : Int) ≤ (i : Int) := by omega
    have i1 : (i : Int) < (xs.length : Int) := by omega
    have HG := hide hge
    have HD := hide hdel
    clear hge hdel hg hf hp hx
    subst hv
    generalize xs[i]?.getD Ent.z = y at *
    go_wp2_with (go_at_call 96; refine (delete_new st _ xs i w1 hS1 hil).mono ?_; rintro _ w2 ⟨a', n', cap', rfl, hr, hO, hv', hcs, hfs, hvs⟩; have f2 := (hfs 1).trans f1; have c2 := (hcs 1).trans c1)
    rw [← HD.out] at hr
    have hlp : (delE xs b m).length ≤ 1000000 := by rw [HD.out]; simp; omega
    obtain ⟨hs3, ho3⟩ := store_set hS1 hr hO hvs (delE_sorted hS1.2.2.2.1) hlp
    go_ret2
    exact ⟨⟨_, hs3, hv'.imp id fun ⟨g, h1, h2⟩ => ⟨g, h1, by have := hB2.size; omega⟩⟩, (Only.of_below _ hB2).trans ho3 (fun x hx => .inl hx), by rw [HG.out]; rfl⟩

-- THE STORE'S CALLS, with its blocks
theorem foot_new {w : World} {st : Nat} {v v' : Value} (h : v'.ownBlock = v.ownBlock ∨ ∃ g, v'.ownBlock = some g ∧ w.heap.size ≤ g) : ∀ k ∈ st :: v'.ownBlock.toList, k ∈ st :: v.ownBlock.toList ∨ w.heap.size ≤ k := by
  intro k hk
  rcases h with h | ⟨g, h1, h2⟩
  · rw [h] at hk; exact .inl hk
  · rw [h1] at hk
    simp at hk
    rcases hk with rfl | rfl
    · simp
    · exact .inr h2

theorem putE_length (xs : List Ent) (a l n : Int) : (putE xs a l n).length ≤ xs.length + 1 := by
  induction xs with
  | nil => simp [putE]
  | cons x xs ih => rw [putE]; (repeat' split) <;> simp <;> omega

theorem put_F (st : Nat) (xs : List Ent) (F : List Nat) (b m n : Int) (w : World) (hS : StoreF w st xs F) (hlim : xs.length < 1000000) :
    Calls Try.prog 92 #[ptrV st, pfxV b m, .int .i64 n] w fun r w' => (∃ F', StoreF w' st (putE xs b m n) F' ∧ ∀ k ∈ F', k ∈ F ∨ w.heap.size ≤ k) ∧ Only F w w' ∧ r = .returned (.tuple #[.int .i64 (orZ (getE xs b m)), .bool (isS (getE xs b m))]) := by
  obtain ⟨v, hS, rfl⟩ := hS
  cases hg : isS (getE xs b m) with
  | true =>
    refine (stoPut_old st v xs b m n w hS hg hlim).mono ?_
    rintro r w' ⟨⟨v', h1, h2⟩, h3, rfl⟩
    exact ⟨⟨_, ⟨v', h1, rfl⟩, foot_new (.inl h2)⟩, h3, rfl⟩
  | false =>
    refine (stoPut_new st v xs b m n w hS hg hlim).mono ?_
    rintro r w' ⟨⟨v', h1, h2⟩, h3, rfl⟩
    refine ⟨⟨_, ⟨v', h1, rfl⟩, foot_new h2⟩, h3, ?_⟩
    cases h : getE xs b m with
    | none => rfl
    | some k => rw [h] at hg; cases hg

theorem remove_F (st : Nat) (xs : List Ent) (F : List Nat) (b m : Int) (w : World) (hS : StoreF w st xs F) :
    Calls Try.prog 94 #[ptrV st, pfxV b m] w fun r w' => (∃ F', StoreF w' st (delE xs b m) F' ∧ ∀ k ∈ F', k ∈ F ∨ w.heap.size ≤ k) ∧ Only F w w' ∧ r = .returned (.tuple #[.int .i64 (orZ (getE xs b m)), .bool (isS (getE xs b m))]) := by
  obtain ⟨v, hS, rfl⟩ := hS
  cases hg : isS (getE xs b m) with
  | true =>
    refine (stoRemove_some st v xs b m w hS hg).mono ?_
    rintro r w' ⟨⟨v', h1, h2⟩, h3, rfl⟩
    exact ⟨⟨_, ⟨v', h1, rfl⟩, foot_new h2⟩, h3, rfl⟩
  | false =>
    have hn : getE xs b m = none := by
      cases h : getE xs b m with
      | none => rfl
      | some k => rw [h] at hg; cases hg
    refine (stoRemove_none st v xs b m w hS hg).mono ?_
    rintro r w' ⟨hB, rfl⟩
    rw [delE_none hn, hn]
    exact ⟨⟨_, ⟨v, hS.later hB, rfl⟩, fun k hk => .inl hk⟩, Only.of_below _ hB, rfl⟩

theorem get_F (st : Nat) (xs : List Ent) (F : List Nat) (b m : Int) (w : World) (hS : StoreF w st xs F) :
    Calls Try.prog 56 #[ptrV st, pfxV b m] w fun r w' => Below w.heap.size w w' ∧ r = .returned (.tuple #[.int .i64 (orZ (getE xs b m)), .bool (isS (getE xs b m))]) := by
  obtain ⟨v, hS, rfl⟩ := hS
  exact stoGet_any st v xs b m w hS

theorem len_F (st : Nat) (xs : List Ent) (F : List Nat) (w : World) (hS : StoreF w st xs F) :
    Calls Try.prog 91 #[ptrV st] w fun r w' => w' = w ∧ r = .returned (.int .i64 xs.length) := by
  obtain ⟨v, hS, rfl⟩ := hS
  exact stoLen_any st v xs w hS

end Go.Proofs.Ytkihifodifkieaa

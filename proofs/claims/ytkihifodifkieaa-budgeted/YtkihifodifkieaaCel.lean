import Derived.Test.YtkihifodifkieaaEng
namespace Go.Proofs.Ytkihifodifkieaa
open Go.RowKit

-- HOW CELLS TURN WITH THE ROUTES
def blN (xs : List Ent) (a : Int) : Nat → Option Nat
  | 0 => none
  | n + 1 => if (getE xs (cov a n) n).isSome then some n else blN xs a n
theorem best_bl (xs : List Ent) (a : Int) : ∀ n, bestN xs a n = (blN xs a n).map fun j => ⟨cov a j, j, orZ (getE xs (cov a j) j)⟩
  | 0 => rfl
  | n + 1 => by
    rw [bestN, blN]
    cases hg : getE xs (cov a n) n with
    | none => simp [best_bl xs a n]
    | some k => simp [hg, orZ]
theorem blN_get {xs : List Ent} {a : Int} {j : Nat} : ∀ n, blN xs a n = some j → (getE xs (cov a j) j).isSome = true ∧ j < n
  | 0, h => by cases h
  | n + 1, h => by
    rw [blN] at h
    split at h
    · rename_i hs; cases h; exact ⟨hs, by omega⟩
    · have := blN_get n h; exact ⟨this.1, by omega⟩
theorem blN_congr {xs ys : List Ent} {a b : Int} : ∀ n, (∀ j : Nat, j < n → (getE xs (cov a j) j).isSome = (getE ys (cov b j) j).isSome) → blN xs a n = blN ys b n
  | 0, _ => rfl
  | n + 1, h => by rw [blN, blN, h n (by omega), blN_congr n fun j hj => h j (by omega)]
-- two addresses have the same route
def sameR (xs : List Ent) (i j : Int) : Prop := blN xs i 9 = blN xs j 9 ∧ ∀ m, blN xs i 9 = some m → cov i m = cov j m
theorem rt_same {xs : List Ent} (hk : ∀ x ∈ xs, okE x) (i j : Int) : rt xs i = rt xs j ↔ sameR xs i j := by
  unfold rt bestE sameR
  rw [best_bl, best_bl]
  have hpos : ∀ (a : Int) (m : Nat), blN xs a 9 = some m → orZ (getE xs (cov a m) m) ≠ 0 := fun a m h => by
    have h1 := (blN_get 9 h).1
    cases hg : getE xs (cov a m) m with
    | none => rw [hg] at h1; cases h1
    | some k =>
      have : 1 ≤ k := (hk _ (getE_in hg)).2.1
      intro e
      have : k = 0 := e
      omega
  cases h1 : blN xs i 9 with
  | none =>
    cases h2 : blN xs j 9 with
    | none => simp
    | some n =>
      have := hpos j n h2
      simp
      intro _ _ e
      exact this e.symm
  | some m =>
    cases h2 : blN xs j 9 with
    | none =>
      have := hpos i m h1
      simp
      intro _ _ e
      exact this e
    | some n =>
      simp
      constructor
      · rintro ⟨e1, e2, _⟩; exact ⟨by omega, e1 ▸ (by rw [show n = m by omega])⟩
      · rintro ⟨rfl, e⟩; exact ⟨e, rfl, by rw [e]⟩
theorem strB_iff {xs ys : List Ent} (hk : ∀ x ∈ xs, okE x) (hy : ∀ x ∈ ys, okE x) (h : ∀ k : Int, 0 < k → k < 256 → sameR xs (k - 1) k → sameR ys (k - 1) k) (k : Int) : strB ys k = true → strB xs k = true := by
  unfold strB
  by_cases h1 : 0 ≤ k ∧ k < 256
  · by_cases h2 : k = 0
    · simp [h2]
    · have := h k (by omega) h1.2
      rw [← rt_same hk, ← rt_same hy] at this
      simp only [Bool.and_eq_true, Bool.or_eq_true, decide_eq_true_eq, Bool.not_eq_true']
      rintro ⟨h3, h4 | h4⟩
      · exact ⟨h3, .inl h4⟩
      · refine ⟨h3, .inr ?_⟩
        cases he : eqE (rt xs (k - 1)) (rt xs k) with
        | false => rfl
        | true =>
          have := this ((eqE_iff _ _).1 he)
          rw [(eqE_iff _ _).2 this] at h4
          cases h4
  · simp; omega
theorem strN_le {xs ys : List Ent} (h : ∀ k, strB ys k = true → strB xs k = true) : ∀ n, (strN ys n).length ≤ (strN xs n).length
  | 0 => Nat.le_refl _
  | n + 1 => by
    have := strN_le h n
    rw [strN, strN, List.length_append, List.length_append]
    unfold strR
    cases hy : strB ys n with
    | false => simp; omega
    | true => rw [h n hy]; simp; omega
theorem cov_cov {i j : Int} {m l : Nat} (hi : 0 ≤ i) (hi' : i < 256) (hj : 0 ≤ j) (hj' : j < 256) (hml : m ≤ l) (hl : l ≤ 8) (h : cov i l = cov j l) : cov i m = cov j m := by
  have h1 : ∀ a : Int, 0 ≤ a → a < 256 → cov (cov a l) m = cov a m := fun a h0 h1 => by
    unfold cov
    have e1 : l = 0 ∨ l = 1 ∨ l = 2 ∨ l = 3 ∨ l = 4 ∨ l = 5 ∨ l = 6 ∨ l = 7 ∨ l = 8 := by omega
    have e2 : m = 0 ∨ m = 1 ∨ m = 2 ∨ m = 3 ∨ m = 4 ∨ m = 5 ∨ m = 6 ∨ m = 7 ∨ m = 8 := by omega
    rcases e1 with rfl | rfl | rfl | rfl | rfl | rfl | rfl | rfl | rfl <;>
      rcases e2 with rfl | rfl | rfl | rfl | rfl | rfl | rfl | rfl | rfl <;> first | omega | (simp [wid] <;> omega)
  rw [← h1 i hi hi', ← h1 j hj hj', h]

-- a route in place of another
theorem put_isSome {xs : List Ent} {a l n v : Int} (hs : Sorted xs) (hg : getE xs a l = some v) (b m : Int) : (getE (putE xs a l n) b m).isSome = (getE xs b m).isSome := by
  rw [getE_put hs]
  split
  · rename_i h; rw [← h.1, ← h.2, hg]; rfl
  · rfl
theorem putE_len {xs : List Ent} {a l n v : Int} (hs : Sorted xs) (h : getE xs a l = some v) : (putE xs a l n).length = xs.length := by
  induction xs with
  | nil => cases h
  | cons x xs ih =>
    obtain ⟨hs1, hs2⟩ := sorted_tail hs
    rw [getE] at h
    rw [putE]
    split at h
    · rename_i he
      rw [if_neg (by unfold klt; omega), if_pos (by omega)]
      simp
    · rename_i he
      have := hs2 _ (getE_in h)
      simp only at this
      rw [if_pos this]
      simp [ih hs1 h]
theorem sameR_congr {xs ys : List Ent} (h : ∀ b m, (getE xs b m).isSome = (getE ys b m).isSome) (i j : Int) : sameR xs i j ↔ sameR ys i j := by
  unfold sameR
  rw [blN_congr (ys := ys) (b := i) 9 (fun _ _ => h _ _), blN_congr (xs := xs) (ys := ys) (a := j) (b := j) 9 (fun _ _ => h _ _)]
theorem isSome_mem {xs : List Ent} (hs : Sorted xs) (b m : Int) : (getE xs b m).isSome = true ↔ ∃ x ∈ xs, x.a = b ∧ x.l = m := by
  constructor
  · intro h
    cases hg : getE xs b m with
    | none => rw [hg] at h; cases h
    | some k => exact ⟨_, getE_in hg, rfl, rfl⟩
  · rintro ⟨x, hx, rfl, rfl⟩; rw [getE_of hs hx]; rfl
theorem ndb_le {xs ys : List Ent} (hs : Sorted xs) (hy : Sorted ys) (h : ∀ b m, (getE ys b m).isSome = true → (getE xs b m).isSome = true) (c : Nat) : ndb ys c = true → ndb xs c = true := by
  unfold ndb
  rw [List.any_eq_true, List.any_eq_true]
  rintro ⟨y, hm, hc⟩
  obtain ⟨x, hx, e1, e2⟩ := (isSome_mem hs _ _).1 (h y.a y.l ((isSome_mem hy _ _).2 ⟨y, hm, rfl, rfl⟩))
  exact ⟨x, hx, by rw [e1, e2]; exact hc⟩
theorem cntB_le {q r : Nat → Bool} (h : ∀ d, r d = true → q d = true) : ∀ k c, cntB r k c ≤ cntB q k c
  | 0, _ => Int.le_refl _
  | k + 1, c => by
    have h1 := cntB_le h k (2 * c)
    have h2 := cntB_le h k (2 * c + 1)
    have b1 := cntB_bd q k (2 * c)
    have b2 := cntB_bd q k (2 * c + 1)
    rw [cntB, cntB]
    have e1 : (if r (2 * c) then cntB r k (2 * c) else 0) ≤ (if q (2 * c) then cntB q k (2 * c) else 0) := by
      cases hr : r (2 * c) with
      | true => rw [h _ hr]; exact h1
      | false => simp; split <;> omega
    have e2 : (if r (2 * c + 1) then cntB r k (2 * c + 1) else 0) ≤ (if q (2 * c + 1) then cntB q k (2 * c + 1) else 0) := by
      cases hr : r (2 * c + 1) with
      | true => rw [h _ hr]; exact h2
      | false => simp; split <;> omega
    omega
theorem needK_put {k : Int} {xs : List Ent} {a l n v : Int} (hs : Sorted xs) (hk : ∀ x ∈ xs, okE x) (hn : okE ⟨a, l, n⟩) (hg : getE xs a l = some v) : needK k (putE xs a l n) = needK k xs := by
  have hi := put_isSome (n := n) hs hg
  have hk' := ok_put hk hn
  have h1 : trieN (putE xs a l n) = trieN xs := by
    apply Int.le_antisymm
    · exact cntB_le (ndb_le hs (putE_sorted hs) fun b m h => by rw [← hi]; exact h) 8 1
    · exact cntB_le (ndb_le (putE_sorted hs) hs fun b m h => by rw [hi]; exact h) 8 1
  have h2 : (strL (putE xs a l n)).length = (strL xs).length := by
    apply Nat.le_antisymm
    · exact strN_le (strB_iff hk hk' fun _ _ _ h => (sameR_congr (fun b m => (hi b m).symm) _ _).1 h) 256
    · exact strN_le (strB_iff hk' hk fun _ _ _ h => (sameR_congr hi _ _).1 h) 256
  unfold needK
  rw [h1, h2, putE_len hs hg]

-- a route is taken away
theorem delE_len (xs : List Ent) (a l : Int) : (delE xs a l).length ≤ xs.length := by
  induction xs with
  | nil => exact Nat.le_refl _
  | cons x xs ih =>
    rw [delE]
    split
    · simp
    · simp only [List.length_cons]; omega
theorem bl_off {xs : List Ent} (hs : Sorted xs) {a l i : Int} {m : Nat} : ∀ n, blN xs i n = some m → ¬ (a = cov i m ∧ l = m) → blN (delE xs a l) i n = some m
  | 0, h, _ => by cases h
  | n + 1, h, hne => by
    rw [blN] at h ⊢
    rw [getE_del hs]
    split at h
    · rename_i hsm
      cases h
      rw [if_neg hne, if_pos hsm]
    · rename_i hsm
      have : ¬ ((if a = cov i n ∧ l = n then none else getE xs (cov i n) n).isSome = true) := by split <;> simp_all
      rw [if_neg this]
      exact bl_off hs n h hne
theorem bl_none {xs : List Ent} (hs : Sorted xs) {a l i : Int} : ∀ n, blN xs i n = none → blN (delE xs a l) i n = none
  | 0, _ => rfl
  | n + 1, h => by
    rw [blN] at h ⊢
    rw [getE_del hs]
    split at h
    · cases h
    · rename_i hsm
      have : ¬ ((if a = cov i n ∧ l = n then none else getE xs (cov i n) n).isSome = true) := by split <;> simp_all
      rw [if_neg this]
      exact bl_none hs n h
theorem bl_on {xs : List Ent} (hs : Sorted xs) {i : Int} {m : Nat} : ∀ n, blN xs i n = some m → blN (delE xs (cov i m) m) i n = blN xs i m
  | 0, h => by cases h
  | n + 1, h => by
    have hlt := (blN_get (n + 1) h).2
    rw [blN] at h ⊢
    rw [getE_del hs]
    split at h
    · rename_i hsm
      obtain rfl : n = m := by simpa using h
      rw [if_pos (show cov i n = cov i n ∧ (n : Int) = n from ⟨rfl, rfl⟩)]
      show (if (none : Option Int).isSome = true then some n else blN (delE xs (cov i n) n) i n) = _
      rw [if_neg (by simp)]
      exact blN_congr n fun j hj => by rw [getE_del hs, if_neg (by omega)]
    · rename_i hsm
      have : ¬ ((if cov i m = cov i n ∧ (m : Int) = n then none else getE xs (cov i n) n).isSome = true) := by split <;> simp_all
      rw [if_neg this]
      exact bl_on hs n h
theorem sameR_del {xs : List Ent} (hs : Sorted xs) {a l i j : Int} (hi : 0 ≤ i) (hi' : i < 256) (hj : 0 ≤ j) (hj' : j < 256) (h : sameR xs i j) : sameR (delE xs a l) i j := by
  obtain ⟨h1, h2⟩ := h
  cases hb : blN xs i 9 with
  | none =>
    have e1 := bl_none (a := a) (l := l) hs 9 hb
    have e2 := bl_none (a := a) (l := l) hs 9 (h1 ▸ hb)
    exact ⟨by rw [e1, e2], fun m hm => by rw [e1] at hm; cases hm⟩
  | some m =>
    have hb2 : blN xs j 9 = some m := h1 ▸ hb
    have hc := h2 m hb
    have hm := (blN_get 9 hb).2
    by_cases he : a = cov i m ∧ l = m
    · obtain ⟨rfl, rfl⟩ := he
      have e1 := bl_on hs 9 hb
      have e2 := bl_on hs 9 hb2
      rw [← hc] at e2
      have e3 : blN xs i m = blN xs j m := blN_congr m fun k hk => by rw [cov_cov hi hi' hj hj' (Nat.le_of_lt hk) (by omega) hc]
      refine ⟨by rw [e1, e2, e3], fun k hk => ?_⟩
      rw [e1] at hk
      exact cov_cov hi hi' hj hj' (Nat.le_of_lt (blN_get m hk).2) (by omega) hc
    · have e1 := bl_off hs 9 hb he
      have e2 := bl_off hs 9 hb2 (hc ▸ he)
      refine ⟨by rw [e1, e2], fun k hk => ?_⟩
      rw [e1] at hk
      cases hk
      exact hc
theorem needK_del {k : Int} {xs : List Ent} {a l : Int} (hs : Sorted xs) (hk : ∀ x ∈ xs, okE x) : needK k (delE xs a l) ≤ needK k xs := by
  have hk' := ok_del (a := a) (l := l) hk
  have h1 : trieN (delE xs a l) ≤ trieN xs := cntB_le (ndb_le hs (delE_sorted hs) fun b m h => by
    rw [getE_del hs] at h
    split at h
    · cases h
    · exact h) 8 1
  have h2 : (strL (delE xs a l)).length ≤ (strL xs).length := strN_le (strB_iff hk hk' fun k h0 h1 h => sameR_del hs (by omega) (by omega) (by omega) (by omega) h) 256
  have h3 := delE_len xs a l
  unfold needK
  split
  · omega
  · split <;> omega

end Go.Proofs.Ytkihifodifkieaa

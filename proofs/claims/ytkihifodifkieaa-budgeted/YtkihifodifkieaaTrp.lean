import Derived.Test.YtkihifodifkieaaRgf
namespace Go.Proofs.Ytkihifodifkieaa
open Go.RowKit

-- THE PLACES OF PREFIXES IN A TREE: the root is 1, the halves of c are 2 c and 2 c + 1.
def pcn (A i : Nat) : Nat := (256 + A) / 2 ^ (8 - i)
def anc (c x : Nat) : Prop := ∃ j, x / 2 ^ j = c
theorem anc_refl (c : Nat) : anc c c := ⟨0, by simp⟩
theorem anc_le {c x : Nat} (h : anc c x) : c ≤ x := by
  obtain ⟨j, rfl⟩ := h
  exact Nat.div_le_self _ _
theorem anc_half {c x : Nat} : anc c x ↔ x = c ∨ anc (2 * c) x ∨ anc (2 * c + 1) x := by
  constructor
  · rintro ⟨j, h⟩
    cases j with
    | zero => simp at h; exact .inl h
    | succ j =>
      rw [Nat.pow_succ, ← Nat.div_div_eq_div_mul] at h
      rcases Nat.mod_two_eq_zero_or_one (x / 2 ^ j) with h1 | h1
      · exact .inr (.inl ⟨j, by omega⟩)
      · exact .inr (.inr ⟨j, by omega⟩)
  · rintro (rfl | ⟨j, h⟩ | ⟨j, h⟩)
    · exact anc_refl _
    · exact ⟨j + 1, by rw [Nat.pow_succ, ← Nat.div_div_eq_div_mul, h]; omega⟩
    · exact ⟨j + 1, by rw [Nat.pow_succ, ← Nat.div_div_eq_div_mul, h]; omega⟩
theorem anc_trans {a b c : Nat} (h : anc a b) (k : anc b c) : anc a c := by
  obtain ⟨i, rfl⟩ := h
  obtain ⟨j, rfl⟩ := k
  exact ⟨j + i, by rw [Nat.pow_add, Nat.div_div_eq_div_mul]⟩
theorem anc_lin {a b x : Nat} (h : anc a x) (k : anc b x) : anc a b ∨ anc b a := by
  obtain ⟨i, rfl⟩ := h
  obtain ⟨j, rfl⟩ := k
  rcases Nat.le_total i j with h1 | h1
  · refine .inr ⟨j - i, ?_⟩
    rw [Nat.div_div_eq_div_mul, ← Nat.pow_add]; congr 2; omega
  · refine .inl ⟨i - j, ?_⟩
    rw [Nat.div_div_eq_div_mul, ← Nat.pow_add]; congr 2; omega
theorem anc_parent {a c : Nat} (h : anc a c) (hn : c ≠ a) : anc a (c / 2) := by
  obtain ⟨j, rfl⟩ := h
  cases j with
  | zero => simp at hn
  | succ j => exact ⟨j, by rw [Nat.div_div_eq_div_mul, Nat.pow_succ, Nat.mul_comm]⟩
theorem anc_antisymm {a b : Nat} (h : anc a b) (k : anc b a) : a = b := Nat.le_antisymm (anc_le h) (anc_le k)

theorem pcn_step (A i : Nat) (h : i < 8) : pcn A i = pcn A (i + 1) / 2 := by
  unfold pcn
  rw [Nat.div_div_eq_div_mul, ← Nat.pow_succ]; congr 2; omega
theorem pcn_anc (A : Nat) {i j : Nat} (h : i ≤ j) (hj : j ≤ 8) : anc (pcn A i) (pcn A j) := by
  unfold pcn
  refine ⟨j - i, ?_⟩
  rw [Nat.div_div_eq_div_mul, ← Nat.pow_add]; congr 2; omega
theorem pcn_zero {A : Nat} (h : A < 256) : pcn A 0 = 1 := by unfold pcn; simp; omega
theorem pcn_bd {A i : Nat} (h : A < 256) (hi : i ≤ 8) : 2 ^ i ≤ pcn A i ∧ pcn A i < 2 * 2 ^ i := by
  unfold pcn
  have : i = 0 ∨ i = 1 ∨ i = 2 ∨ i = 3 ∨ i = 4 ∨ i = 5 ∨ i = 6 ∨ i = 7 ∨ i = 8 := by omega
  rcases this with rfl | rfl | rfl | rfl | rfl | rfl | rfl | rfl | rfl <;> simp <;> omega
theorem pcn_pos {A i : Nat} (h : A < 256) (hi : i ≤ 8) : 1 ≤ pcn A i ∧ pcn A i < 512 := by
  have := pcn_bd h hi
  have h1 : 2 ^ i ≤ 2 ^ 8 := Nat.pow_le_pow_right (by omega) hi
  have h2 : 0 < 2 ^ i := Nat.pow_pos (by omega)
  omega
theorem pcn_side {a : Int} {i : Nat} (ha : 0 ≤ a) (ha' : a < 256) (hi : i < 8) : (pcn a.toNat (i + 1) : Int) = 2 * (pcn a.toNat i : Int) + sideI a i := by
  obtain ⟨A, rfl⟩ : ∃ A : Nat, a = A := ⟨a.toNat, by omega⟩
  unfold pcn sideI
  have : i = 0 ∨ i = 1 ∨ i = 2 ∨ i = 3 ∨ i = 4 ∨ i = 5 ∨ i = 6 ∨ i = 7 := by omega
  rcases this with rfl | rfl | rfl | rfl | rfl | rfl | rfl | rfl <;> simp [wid] <;> omega
theorem pcn_cov {a : Int} {i : Nat} (ha : 0 ≤ a) (ha' : a < 256) (hi : i ≤ 8) : pcn (cov a i).toNat i = pcn a.toNat i := by
  obtain ⟨A, rfl⟩ : ∃ A : Nat, a = A := ⟨a.toNat, by omega⟩
  unfold pcn cov
  have : i = 0 ∨ i = 1 ∨ i = 2 ∨ i = 3 ∨ i = 4 ∨ i = 5 ∨ i = 6 ∨ i = 7 ∨ i = 8 := by omega
  rcases this with rfl | rfl | rfl | rfl | rfl | rfl | rfl | rfl | rfl <;> simp [wid] <;> omega
theorem cov_pfx {a : Int} {i : Nat} (ha : 0 ≤ a) (ha' : a < 256) (hi : i ≤ 8) : isPfx (cov a i) i = true := by
  rw [isPfx_iff]
  have hb := cov_bd a i ha
  refine ⟨by omega, by omega, hb.1, by omega, ?_⟩
  unfold cov
  have hw0 := (wid_bd i).1
  rw [Int.sub_emod, Int.emod_emod_of_dvd _ (Int.dvd_refl _), Int.sub_self, Int.zero_emod]

-- the place of a prefix
def pcE (a l : Int) : Nat := pcn a.toNat l.toNat
theorem pcE_inj {a l b m : Int} (h : isPfx a l = true) (k : isPfx b m = true) (e : pcE a l = pcE b m) : a = b ∧ l = m := by
  obtain ⟨l0, l8, a0, a1, am⟩ := (isPfx_iff a l).1 h
  obtain ⟨m0, m8, b0, b1, bm⟩ := (isPfx_iff b m).1 k
  obtain ⟨A, rfl⟩ : ∃ A : Nat, a = A := ⟨a.toNat, by omega⟩
  obtain ⟨C, rfl⟩ : ∃ C : Nat, b = C := ⟨b.toNat, by omega⟩
  obtain ⟨i, rfl⟩ : ∃ i : Nat, l = i := ⟨l.toNat, by omega⟩
  obtain ⟨j, rfl⟩ : ∃ j : Nat, m = j := ⟨m.toNat, by omega⟩
  have hA := pcn_bd (A := A) (i := i) (by omega) (by omega)
  have hC := pcn_bd (A := C) (i := j) (by omega) (by omega)
  unfold pcE at e
  simp only [Int.toNat_natCast] at e
  rw [e] at hA
  have hij : i = j := by
    rcases Nat.lt_trichotomy i j with h1 | h1 | h1
    · have : 2 ^ (i + 1) ≤ 2 ^ j := Nat.pow_le_pow_right (by omega) h1
      rw [Nat.pow_succ] at this; omega
    · exact h1
    · have : 2 ^ (j + 1) ≤ 2 ^ i := Nat.pow_le_pow_right (by omega) h1
      rw [Nat.pow_succ] at this; omega
  subst hij
  refine ⟨?_, rfl⟩
  unfold pcn at e
  have : i = 0 ∨ i = 1 ∨ i = 2 ∨ i = 3 ∨ i = 4 ∨ i = 5 ∨ i = 6 ∨ i = 7 ∨ i = 8 := by omega
  rcases this with rfl | rfl | rfl | rfl | rfl | rfl | rfl | rfl | rfl <;> simp [wid] at am bm e <;> omega
theorem pcE_bd {a l : Int} (h : isPfx a l = true) : 1 ≤ pcE a l ∧ pcE a l < 512 := by
  obtain ⟨l0, l8, a0, a1, am⟩ := (isPfx_iff a l).1 h
  exact pcn_pos (by omega) (by omega)

-- what stands at a place
def vE : List Ent → Nat → Int
  | [], _ => 0
  | x :: xs, c => if pcE x.a x.l = c then x.n else vE xs c
theorem vE_get {xs : List Ent} (hk : ∀ x ∈ xs, okE x) {a l : Int} (h : isPfx a l = true) : vE xs (pcE a l) = orZ (getE xs a l) := by
  induction xs with
  | nil => rfl
  | cons x xs ih =>
    rw [vE, getE]
    by_cases hx : x.a = a ∧ x.l = l
    · rw [if_pos hx, if_pos (by rw [hx.1, hx.2])]; rfl
    · rw [if_neg hx, if_neg (fun e => hx (pcE_inj (hk x (by simp)).1 h e)), ih fun y hy => hk y (by simp [hy])]
theorem vE_out {xs : List Ent} (hk : ∀ x ∈ xs, okE x) {c : Nat} (h : c < 1 ∨ 512 ≤ c) : vE xs c = 0 := by
  induction xs with
  | nil => rfl
  | cons x xs ih =>
    have := pcE_bd (hk x (by simp)).1
    rw [vE, if_neg (by omega), ih fun y hy => hk y (by simp [hy])]
theorem vE_some {xs : List Ent} {c : Nat} (h : vE xs c ≠ 0) : ∃ x ∈ xs, pcE x.a x.l = c := by
  induction xs with
  | nil => exact absurd rfl h
  | cons x xs ih =>
    rw [vE] at h
    split at h
    · exact ⟨x, by simp, by assumption⟩
    · obtain ⟨y, hy, e⟩ := ih h; exact ⟨y, by simp [hy], e⟩
def updV (v : Nat → Int) (x : Nat) (n : Int) : Nat → Int := fun c => if c = x then n else v c
theorem orZ_ite (p : Prop) [Decidable p] (n : Int) (o : Option Int) : orZ (if p then some n else o) = if p then n else orZ o := by split <;> rfl
theorem orZ_ite0 (p : Prop) [Decidable p] (o : Option Int) : orZ (if p then none else o) = if p then 0 else orZ o := by split <;> rfl
-- every place from 1 to 511 is a prefix's
theorem place_pfx {c : Nat} (h1 : 1 ≤ c) (h2 : c < 512) : ∃ a l, isPfx a l = true ∧ pcE a l = c := by
  have : ∃ i, i ≤ 8 ∧ 2 ^ i ≤ c ∧ c < 2 * 2 ^ i := by
    by_cases e1 : c < 2
    · exact ⟨0, by omega, by simpa using h1, by simpa using e1⟩
    by_cases e2 : c < 4
    · exact ⟨1, by omega, by simp; omega, by simpa using e2⟩
    by_cases e3 : c < 8
    · exact ⟨2, by omega, by simp; omega, by simpa using e3⟩
    by_cases e4 : c < 16
    · exact ⟨3, by omega, by simp; omega, by simpa using e4⟩
    by_cases e5 : c < 32
    · exact ⟨4, by omega, by simp; omega, by simpa using e5⟩
    by_cases e6 : c < 64
    · exact ⟨5, by omega, by simp; omega, by simpa using e6⟩
    by_cases e7 : c < 128
    · exact ⟨6, by omega, by simp; omega, by simpa using e7⟩
    by_cases e8 : c < 256
    · exact ⟨7, by omega, by simp; omega, by simpa using e8⟩
    exact ⟨8, by omega, by simp; omega, by simpa using h2⟩
  obtain ⟨i, hi, h3, h4⟩ := this
  refine ⟨(((c - 2 ^ i) * 2 ^ (8 - i) : Nat) : Int), (i : Int), ?_, ?_⟩
  · rw [isPfx_iff]
    have : i = 0 ∨ i = 1 ∨ i = 2 ∨ i = 3 ∨ i = 4 ∨ i = 5 ∨ i = 6 ∨ i = 7 ∨ i = 8 := by omega
    rcases this with rfl | rfl | rfl | rfl | rfl | rfl | rfl | rfl | rfl <;> simp [wid] at h3 h4 ⊢ <;> omega
  · unfold pcE pcn
    simp only [Int.toNat_natCast]
    have : i = 0 ∨ i = 1 ∨ i = 2 ∨ i = 3 ∨ i = 4 ∨ i = 5 ∨ i = 6 ∨ i = 7 ∨ i = 8 := by omega
    rcases this with rfl | rfl | rfl | rfl | rfl | rfl | rfl | rfl | rfl <;> simp at h3 h4 ⊢ <;> omega
theorem vE_put {xs : List Ent} (hs : Sorted xs) (hk : ∀ x ∈ xs, okE x) {a l n : Int} (h : okE ⟨a, l, n⟩) : vE (putE xs a l n) = updV (vE xs) (pcE a l) n := by
  have hk' := ok_put hk h
  funext c
  unfold updV
  by_cases hc : 1 ≤ c ∧ c < 512
  · obtain ⟨b, m, hp, rfl⟩ := place_pfx hc.1 hc.2
    rw [vE_get hk' hp, vE_get hk hp, getE_put hs, orZ_ite]
    by_cases e : a = b ∧ l = m
    · rw [if_pos e, if_pos (by rw [e.1, e.2])]
    · rw [if_neg e, if_neg (fun e' => e (by have := pcE_inj hp h.1 e'; exact ⟨this.1.symm, this.2.symm⟩))]
  · rw [vE_out hk' (by omega), vE_out hk (by omega)]
    have := pcE_bd h.1
    simp only at this
    rw [if_neg (by omega)]
theorem vE_del {xs : List Ent} (hs : Sorted xs) (hk : ∀ x ∈ xs, okE x) {a l : Int} (h : isPfx a l = true) : vE (delE xs a l) = updV (vE xs) (pcE a l) 0 := by
  have hk' := ok_del (a := a) (l := l) hk
  funext c
  unfold updV
  by_cases hc : 1 ≤ c ∧ c < 512
  · obtain ⟨b, m, hp, rfl⟩ := place_pfx hc.1 hc.2
    rw [vE_get hk' hp, vE_get hk hp, getE_del hs, orZ_ite0]
    by_cases e : a = b ∧ l = m
    · rw [if_pos e, if_pos (by rw [e.1, e.2])]
    · rw [if_neg e, if_neg (fun e' => e (by have := pcE_inj hp h e'; exact ⟨this.1.symm, this.2.symm⟩))]
  · rw [vE_out hk' (by omega), vE_out hk (by omega)]
    have := pcE_bd h
    rw [if_neg (by omega)]

-- which places are needed
def nd (v : Nat → Int) (c : Nat) : Prop := ∃ d, anc c d ∧ v d ≠ 0
theorem nd_iff (v : Nat → Int) (c : Nat) : nd v c ↔ v c ≠ 0 ∨ nd v (2 * c) ∨ nd v (2 * c + 1) := by
  constructor
  · rintro ⟨d, h, hv⟩
    rcases anc_half.1 h with rfl | h | h
    · exact .inl hv
    · exact .inr (.inl ⟨d, h, hv⟩)
    · exact .inr (.inr ⟨d, h, hv⟩)
  · rintro (h | ⟨d, h, hv⟩ | ⟨d, h, hv⟩)
    · exact ⟨c, anc_refl c, h⟩
    · exact ⟨d, anc_half.2 (.inr (.inl h)), hv⟩
    · exact ⟨d, anc_half.2 (.inr (.inr h)), hv⟩
theorem nd_off {v : Nat → Int} {x c : Nat} {n : Int} (h : ¬ anc c x) : nd (updV v x n) c ↔ nd v c := by
  constructor
  · rintro ⟨d, hd, hv⟩
    refine ⟨d, hd, ?_⟩
    have : d ≠ x := fun e => h (e ▸ hd)
    simpa [updV, this] using hv
  · rintro ⟨d, hd, hv⟩
    refine ⟨d, hd, ?_⟩
    have : d ≠ x := fun e => h (e ▸ hd)
    simpa [updV, this] using hv
theorem nd_on {v : Nat → Int} {x c : Nat} {n : Int} (h : anc c x) (hn : n ≠ 0) : nd (updV v x n) c := ⟨x, h, by simpa [updV] using hn⟩
theorem updV_same {v : Nat → Int} {x : Nat} (h : v x = 0) : updV v x 0 = v := by
  funext c
  unfold updV
  split
  · subst_vars; exact h.symm
  · rfl

-- by program
def ancb (c x : Nat) : Bool := (List.range 10).any fun j => x / 2 ^ j == c
def ndb (xs : List Ent) (c : Nat) : Bool := xs.any fun x => ancb c (pcE x.a x.l)
theorem ancb_iff {c x : Nat} (hc : 1 ≤ c) (hx : x < 512) : ancb c x = true ↔ anc c x := by
  unfold ancb anc
  rw [List.any_eq_true]
  constructor
  · rintro ⟨j, _, h⟩; exact ⟨j, by simpa using h⟩
  · rintro ⟨j, h⟩
    refine ⟨j, ?_, by simpa using h⟩
    rw [List.mem_range]
    rcases Nat.lt_or_ge j 10 with h1 | h1
    · exact h1
    · have h2 : 2 ^ 10 ≤ 2 ^ j := Nat.pow_le_pow_right (by omega) h1
      rw [Nat.div_eq_of_lt (by omega)] at h; omega
theorem getE_of {xs : List Ent} (hs : Sorted xs) {x : Ent} (hx : x ∈ xs) : getE xs x.a x.l = some x.n := by
  induction xs with
  | nil => cases hx
  | cons y xs ih =>
    obtain ⟨hs1, hs2⟩ := sorted_tail hs
    rw [getE]
    rcases List.mem_cons.1 hx with rfl | h
    · simp
    · have := hs2 x h
      unfold klt at this
      rw [if_neg (by omega), ih hs1 h]
theorem ndb_iff {xs : List Ent} (hs : Sorted xs) (hk : ∀ x ∈ xs, okE x) {c : Nat} (hc : 1 ≤ c) : ndb xs c = true ↔ nd (vE xs) c := by
  unfold ndb nd
  rw [List.any_eq_true]
  constructor
  · rintro ⟨x, hx, h⟩
    have hp := hk x hx
    refine ⟨pcE x.a x.l, (ancb_iff hc (pcE_bd hp.1).2).1 h, ?_⟩
    rw [vE_get hk hp.1, getE_of hs hx]
    simp [orZ]
    have := hp.2.1
    omega
  · rintro ⟨d, hd, hv⟩
    obtain ⟨x, hx, rfl⟩ := vE_some hv
    exact ⟨x, hx, (ancb_iff hc (pcE_bd (hk x hx).1).2).2 hd⟩

-- how many places there are beneath one, and itself
def cntB (q : Nat → Bool) : Nat → Nat → Int
  | 0, _ => 1
  | k + 1, c => 1 + (if q (2 * c) then cntB q k (2 * c) else 0) + (if q (2 * c + 1) then cntB q k (2 * c + 1) else 0)
theorem cntB_bd (q : Nat → Bool) : ∀ k c, 1 ≤ cntB q k c ∧ cntB q k c + 1 ≤ 2 * ((2 ^ k : Nat) : Int)
  | 0, _ => by simp [cntB]
  | k + 1, c => by
    have h1 := cntB_bd q k (2 * c)
    have h2 := cntB_bd q k (2 * c + 1)
    rw [cntB, Nat.pow_succ]
    split <;> split <;> omega
theorem cntB_congr {q r : Nat → Bool} : ∀ k c, 1 ≤ c → (∀ d, 2 ≤ d → q d = r d) → cntB q k c = cntB r k c
  | 0, _, _, _ => rfl
  | k + 1, c, hc, h => by rw [cntB, cntB, h _ (by omega), h _ (by omega), cntB_congr k _ (by omega) h, cntB_congr k _ (by omega) h]

end Go.Proofs.Ytkihifodifkieaa

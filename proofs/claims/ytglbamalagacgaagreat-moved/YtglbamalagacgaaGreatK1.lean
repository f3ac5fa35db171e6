import Derived.Test.YtglbamalagacgaaGreatF1
namespace Go.Proofs.YtglbamalagacgaaGreat
open Go.RowKit Go.Shelf
def cntA (S : Nat -> Bool) : Nat -> Nat -> Nat
 | 0, c => if S c then 1 else 0
 | k + 1, c => (if S c then 1 else 0) + cntA S k (2 * c) + cntA S k (2 * c + 1)
def occ : Nat -> Nat -> Nat -> Nat
 | 0, c, d => if d = c then 1 else 0
 | k + 1, c, d => (if d = c then 1 else 0) + occ k (2 * c) d + occ k (2 * c + 1) d
def updB (S : Nat -> Bool) (d : Nat) : Nat -> Bool := fun c => c == d || S c
theorem updB_if {S : Nat -> Bool} {d : Nat} (h : S d = false) (c : Nat) : (if updB S d c = true then 1 else 0) = (if S c = true then 1 else 0) + (if d = c then 1 else 0) := by
 unfold updB
 by_cases hc : c = d
 ·subst hc; simp [h]
 ·have : ¬ d = c := fun e => hc e.symm
  simp [hc, this]
theorem cntA_upd {S : Nat -> Bool} {d : Nat} (h : S d = false) : ∀ k c, cntA (updB S d) k c = cntA S k c + occ k c d
 | 0, c => by rw [cntA, cntA, occ]; exact updB_if h c
 | k + 1, c => by rw [cntA, cntA, occ, updB_if h c, cntA_upd h k, cntA_upd h k]; omega
set_option maxRecDepth 100000 in
theorem occ_all : (List.range 512).all (fun d => decide (d = 0) || occ 8 1 d == 1) = true := by kernel_rfl
theorem occ_one {d : Nat} (h : 1 <= d) (h2 : d < 512) : occ 8 1 d = 1 := by
 have := List.all_eq_true.1 occ_all d (List.mem_range.2 h2)
 simp only [Bool.or_eq_true, decide_eq_true_eq, beq_iff_eq] at this
 omega
theorem cntA_le (S : Nat -> Bool) : ∀ k c, cntA S k c + 1 <= 2 * 2 ^ k
 | 0, c => by rw [cntA]; split <;> simp
 | k + 1, c => by
  have h1 := cntA_le S k (2 * c)
  have h2 := cntA_le S k (2 * c + 1)
  rw [cntA, Nat.pow_succ]
  split <;> omega
theorem cntA_cntB {q S : Nat -> Bool} (hS : ∀ c, 2 <= c -> S c = q c) (hh : ∀ c, 1 <= c -> S c = false -> S (2 * c) = false /\ S (2 * c + 1) = false) : ∀ k c, 1 <= c -> (cntA S k c : Int) = if S c = true then cntB q k c else 0
 | 0, c, _ => by rw [cntA, cntB]; split <;> rfl
 | k + 1, c, hc => by
  have h1 := cntA_cntB hS hh k (2 * c) (by omega)
  have h2 := cntA_cntB hS hh k (2 * c + 1) (by omega)
  rw [hS (2 * c) (by omega)] at h1
  rw [hS (2 * c + 1) (by omega)] at h2
  rw [cntA, cntB]
  cases hc' : S c with
  | true =>
   simp only [if_true]
   rw [<- h1, <- h2]
   omega
  | false =>
   obtain ⟨e1, e2⟩ := hh c hc hc'
   rw [hS _ (by omega)] at e1 e2
   rw [e1] at h1
   rw [e2] at h2
   simp at h1 h2 ⊢
   omega
theorem pcn_div {A i j : Nat} (hj : j <= i) (hi : i <= 8) : pcn A i / 2 ^ j = pcn A (i - j) := by
 unfold pcn
 rw [Nat.div_div_eq_div_mul, <- Nat.pow_add, show 8 - i + j = 8 - (i - j) by omega]
def plc (xs : List Ent) (i : Nat) (c : Nat) : Prop := c = 1 ∨ ∃ x ∈ xs, rkE x < i /\ ∃ k : Nat, (k : Int) <= x.l /\ c = pcn x.a.toNat k
theorem plc_ndb {xs : List Ent} (hk : ∀ x ∈ xs, okE x) {c : Nat} (hc : 2 <= c) : plc xs 2304 c ↔ ndb xs c = true := by
 unfold plc ndb
 rw [List.any_eq_true]
 constructor
 ·rintro (h | ⟨x, hx, _, k, h1, rfl⟩)
  ·omega
  ·have hp := (isPfx_iff _ _).1 (hk x hx).1
   refine ⟨x, hx, (ancb_iff (by omega) (pcE_bd (hk x hx).1).2).2 ⟨x.l.toNat - k, ?_⟩⟩
   unfold pcE
   rw [pcn_div (by omega) (by omega), show x.l.toNat - (x.l.toNat - k) = k by omega]
 ·rintro ⟨x, hx, h⟩
  have hp := (isPfx_iff _ _).1 (hk x hx).1
  obtain ⟨j, hj⟩ := (ancb_iff (by omega) (pcE_bd (hk x hx).1).2).1 h
  refine .inr ⟨x, hx, by unfold rkE; omega, ?_⟩
  unfold pcE at hj
  by_cases hjl : j <= x.l.toNat
  ·rw [pcn_div hjl (by omega)] at hj
   exact ⟨x.l.toNat - j, by omega, hj.symm⟩
  ·exfalso
   have h1 : pcn x.a.toNat x.l.toNat / 2 ^ j <= pcn x.a.toNat x.l.toNat / 2 ^ x.l.toNat := Nat.div_le_div_left (Nat.pow_le_pow_right (by omega) (by omega)) (Nat.pow_pos (by omega))
   rw [pcn_div (Nat.le_refl _) (by omega), Nat.sub_self, pcn_zero (by omega)] at h1
   omega
theorem plc_up {xs : List Ent} (hk : ∀ x ∈ xs, okE x) {i c d : Nat} (hc : 1 <= c) (hd : d = 2 * c ∨ d = 2 * c + 1) (h : plc xs i d) : plc xs i c := by
 rcases h with h | ⟨x, hx, h0, k, h1, h2⟩
 ·omega
 ·have hp := (isPfx_iff _ _).1 (hk x hx).1
  cases k with
  | zero => rw [pcn_zero (by omega)] at h2; omega
  | succ k =>
   refine .inr ⟨x, hx, h0, k, by omega, ?_⟩
   have := pcn_div (A := x.a.toNat) (i := k + 1) (j := 1) (by omega) (by omega)
   rw [<- h2] at this
   simp at this
   omega
def SetOf (S : Nat -> Bool) (P : Nat -> Prop) : Prop := ∀ c, S c = true ↔ P c
theorem cnt_trie {xs : List Ent} (hk : ∀ x ∈ xs, okE x) {S : Nat -> Bool} (h : SetOf S (plc xs 2304)) : (cntA S 8 1 : Int) = trieN xs := by
 have h1 : S 1 = true := (h 1).2 (.inl rfl)
 have := cntA_cntB (q := ndb xs) (S := S) (fun c hc => by
  rw [Bool.eq_iff_iff, h c]
  exact plc_ndb hk hc) (fun c hc hf => by
  have hn : ¬ plc xs 2304 c := fun hp => by rw [(h c).2 hp] at hf; cases hf
  constructor
  ·exact Bool.eq_false_iff.2 fun ht => hn (plc_up hk hc (.inl rfl) ((h _).1 ht))
  ·exact Bool.eq_false_iff.2 fun ht => hn (plc_up hk hc (.inr rfl) ((h _).1 ht))) 8 1 (by omega)
 rw [this, if_pos h1]
 rfl
theorem SetOf.upd {S : Nat -> Bool} {P : Nat -> Prop} (h : SetOf S P) (d : Nat) : SetOf (updB S d) fun c => P c ∨ c = d := fun c => by
 unfold updB
 rw [Bool.or_eq_true, h c, beq_iff_eq]
 exact or_comm
theorem SetOf.congr {S : Nat -> Bool} {P Q : Nat -> Prop} (h : SetOf S P) (hq : ∀ c, P c ↔ Q c) : SetOf S Q := fun c => (h c).trans (hq c)
theorem str_one (xs : List Ent) : (strN xs 1).length = 1 := by
 show (strN xs 0 ++ _).length = 1
 have : strB xs 0 = true := by simp [strB]
 simp [strN, strR, this]
theorem str_succ {xs : List Ent} (hk : ∀ x ∈ xs, okE x) {a : Nat} (h1 : 1 <= a) (h2 : a < 256) : (sameR xs ((a : Int) - 1) a -> (strN xs (a + 1)).length = (strN xs a).length) /\ (¬ sameR xs ((a : Int) - 1) a -> (strN xs (a + 1)).length = (strN xs a).length + 1) := by
 have e : strB xs (a : Int) = !(eqE (rt xs ((a : Int) - 1)) (rt xs a)) := by
  unfold strB
  rw [decide_eq_true (by omega), decide_eq_true (by omega), decide_eq_false (by omega)]
  rfl
 constructor
 ·intro h
  have := (eqE_iff _ _).2 ((rt_same hk _ _).2 h)
  rw [this] at e
  rw [strN, List.length_append]
  simp [strR, e]
 ·intro h
  have : eqE (rt xs ((a : Int) - 1)) (rt xs a) = false := Bool.eq_false_iff.2 fun ht => h ((rt_same hk _ _).1 ((eqE_iff _ _).1 ht))
  rw [this] at e
  rw [strN, List.length_append]
  simp [strR, e]
end Go.Proofs.YtglbamalagacgaaGreat

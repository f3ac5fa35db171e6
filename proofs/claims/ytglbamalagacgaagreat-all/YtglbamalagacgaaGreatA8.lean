import Derived.Test.YtglbamalagacgaaGreatA7
import Derived.ChangeKeysEq
namespace Go.Proofs.YtglbamalagacgaaGreat
open Go.RowKit
def pcn (A i : Nat) : Nat := (256 + A) / 2 ^ (8 - i)
def anc (c x : Nat) : Prop := ∃ j, x / 2 ^ j = c
theorem anc_refl (c : Nat) : anc c c := ⟨0, by simp⟩
theorem anc_le {c x : Nat} (h : anc c x) : c <= x := by
 obtain ⟨j, rfl⟩ := h
 exact Nat.div_le_self _ _
theorem anc_half {c x : Nat} : anc c x ↔ x = c ∨ anc (2 * c) x ∨ anc (2 * c + 1) x := by
 constructor
 ·rintro ⟨j, h⟩
  cases j with
  | zero => simp at h; exact .inl h
  | succ j =>
   rw [Nat.pow_succ, <- Nat.div_div_eq_div_mul] at h
   rcases Nat.mod_two_eq_zero_or_one (x / 2 ^ j) with h1 | h1
   ·exact .inr (.inl ⟨j, by omega⟩)
   ·exact .inr (.inr ⟨j, by omega⟩)
 ·rintro (rfl | ⟨j, h⟩ | ⟨j, h⟩)
  ·exact anc_refl _
  ·exact ⟨j + 1, by rw [Nat.pow_succ, <- Nat.div_div_eq_div_mul, h]; omega⟩
  ·exact ⟨j + 1, by rw [Nat.pow_succ, <- Nat.div_div_eq_div_mul, h]; omega⟩
theorem anc_trans {a b c : Nat} (h : anc a b) (k : anc b c) : anc a c := by
 obtain ⟨i, rfl⟩ := h
 obtain ⟨j, rfl⟩ := k
 exact ⟨j + i, by rw [Nat.pow_add, Nat.div_div_eq_div_mul]⟩
theorem anc_lin {a b x : Nat} (h : anc a x) (k : anc b x) : anc a b ∨ anc b a := by
 obtain ⟨i, rfl⟩ := h
 obtain ⟨j, rfl⟩ := k
 rcases Nat.le_total i j with h1 | h1
 ·refine .inr ⟨j - i, ?_⟩
  rw [Nat.div_div_eq_div_mul, <- Nat.pow_add]; congr 2; omega
 ·refine .inl ⟨i - j, ?_⟩
  rw [Nat.div_div_eq_div_mul, <- Nat.pow_add]; congr 2; omega
theorem anc_parent {a c : Nat} (h : anc a c) (hn : c ≠ a) : anc a (c / 2) := by
 obtain ⟨j, rfl⟩ := h
 cases j with
 | zero => simp at hn
 | succ j => exact ⟨j, by rw [Nat.div_div_eq_div_mul, Nat.pow_succ, Nat.mul_comm]⟩
theorem anc_antisymm {a b : Nat} (h : anc a b) (k : anc b a) : a = b := Nat.le_antisymm (anc_le h) (anc_le k)
theorem pcn_anc (A : Nat) {i j : Nat} (h : i <= j) (hj : j <= 8) : anc (pcn A i) (pcn A j) := by
 unfold pcn
 refine ⟨j - i, ?_⟩
 rw [Nat.div_div_eq_div_mul, <- Nat.pow_add]; congr 2; omega
theorem pcn_zero {A : Nat} (h : A < 256) : pcn A 0 = 1 := by unfold pcn; simp; omega
theorem pcn_bd {A i : Nat} (h : A < 256) (hi : i <= 8) : 2 ^ i <= pcn A i /\ pcn A i < 2 * 2 ^ i := by
 unfold pcn
 have : i = 0 ∨ i = 1 ∨ i = 2 ∨ i = 3 ∨ i = 4 ∨ i = 5 ∨ i = 6 ∨ i = 7 ∨ i = 8 := by omega
 rcases this with rfl | rfl | rfl | rfl | rfl | rfl | rfl | rfl | rfl <;> simp <;> omega
theorem pcn_pos {A i : Nat} (h : A < 256) (hi : i <= 8) : 1 <= pcn A i /\ pcn A i < 512 := by
 have := pcn_bd h hi
 have h1 : 2 ^ i <= 2 ^ 8 := Nat.pow_le_pow_right (by omega) hi
 have h2 : 0 < 2 ^ i := Nat.pow_pos (by omega)
 omega
theorem pcn_side {a : Int} {i : Nat} (ha : 0 <= a) (ha' : a < 256) (hi : i < 8) : (pcn a.toNat (i + 1) : Int) = 2 * (pcn a.toNat i : Int) + sideI a i := by
 obtain ⟨A, rfl⟩ : ∃ A : Nat, a = A := ⟨a.toNat, by omega⟩
 unfold pcn sideI
 have : i = 0 ∨ i = 1 ∨ i = 2 ∨ i = 3 ∨ i = 4 ∨ i = 5 ∨ i = 6 ∨ i = 7 := by omega
 rcases this with rfl | rfl | rfl | rfl | rfl | rfl | rfl | rfl <;> simp [wid] <;> omega
theorem pcn_cov {a : Int} {i : Nat} (ha : 0 <= a) (ha' : a < 256) (hi : i <= 8) : pcn (cov a i).toNat i = pcn a.toNat i := by
 obtain ⟨A, rfl⟩ : ∃ A : Nat, a = A := ⟨a.toNat, by omega⟩
 unfold pcn cov
 have : i = 0 ∨ i = 1 ∨ i = 2 ∨ i = 3 ∨ i = 4 ∨ i = 5 ∨ i = 6 ∨ i = 7 ∨ i = 8 := by omega
 rcases this with rfl | rfl | rfl | rfl | rfl | rfl | rfl | rfl | rfl <;> simp [wid] <;> omega
theorem cov_pfx {a : Int} {i : Nat} (ha : 0 <= a) (ha' : a < 256) (hi : i <= 8) : isPfx (cov a i) i = true := by
 rw [isPfx_iff]
 have hb := cov_bd a i ha
 refine ⟨by omega, by omega, hb.1, by omega, ?_⟩
 unfold cov
 have hw0 := (wid_bd i).1
 rw [Int.sub_emod, Int.emod_emod_of_dvd _ (Int.dvd_refl _), Int.sub_self, Int.zero_emod]
def pcE (a l : Int) : Nat := pcn a.toNat l.toNat
theorem pcE_inj {a l b m : Int} (h : isPfx a l = true) (k : isPfx b m = true) (e : pcE a l = pcE b m) : a = b /\ l = m := by
 obtain ⟨l0, l8, a0, a1, am⟩ := (isPfx_iff a l).1 h
 obtain ⟨m0, m8, b0, b1, bm⟩ := (isPfx_iff b m).1 k
 obtain ⟨A, rfl⟩ : ∃ A : Nat, a = A := ⟨a.toNat, by omega⟩
 obtain ⟨C, rfl⟩ : ∃ C : Nat, b = C := ⟨b.toNat, by omega⟩
 obtain ⟨i, rfl⟩ : ∃ i : Nat, l = i := ⟨l.toNat, by omega⟩
 obtain ⟨j, rfl⟩ : ∃ j : Nat, m = j := ⟨m.toNat, by omega⟩
 have hA := pcn_bd (A := A) (i := i) (by omega) (by omega)
 have hC := pcn_bd (A := C) (i := j) (by omega) (by omega)
 unfold pcE at e
 simp only [Int.toNat_natCast] at e
 rw [e] at hA
 have hij : i = j := by
  rcases Nat.lt_trichotomy i j with h1 | h1 | h1
  ·have : 2 ^ (i + 1) <= 2 ^ j := Nat.pow_le_pow_right (by omega) h1
   rw [Nat.pow_succ] at this; omega
  ·exact h1
  ·have : 2 ^ (j + 1) <= 2 ^ i := Nat.pow_le_pow_right (by omega) h1
   rw [Nat.pow_succ] at this; omega
 subst hij
 refine ⟨?_, rfl⟩
 unfold pcn at e
 have : i = 0 ∨ i = 1 ∨ i = 2 ∨ i = 3 ∨ i = 4 ∨ i = 5 ∨ i = 6 ∨ i = 7 ∨ i = 8 := by omega
 rcases this with rfl | rfl | rfl | rfl | rfl | rfl | rfl | rfl | rfl <;> simp [wid] at am bm e <;> omega
theorem pcE_bd {a l : Int} (h : isPfx a l = true) : 1 <= pcE a l /\ pcE a l < 512 := by
 obtain ⟨l0, l8, a0, a1, am⟩ := (isPfx_iff a l).1 h
 exact pcn_pos (by omega) (by omega)
def vE : List Ent -> Nat -> Int
 | [], _ => 0
 | x :: xs, c => if pcE x.a x.l = c then x.n else vE xs c
theorem vE_get {xs : List Ent} (hk : ∀ x ∈ xs, okE x) {a l : Int} (h : isPfx a l = true) : vE xs (pcE a l) = orZ (getE xs a l) := by
 induction xs with
 | nil => rfl
 | cons x xs ih =>
  rw [vE, getE]
  by_cases hx : x.a = a /\ x.l = l
  ·rw [if_pos hx, if_pos (by rw [hx.1, hx.2])]; rfl
  ·rw [if_neg hx, if_neg (fun e => hx (pcE_inj (hk x (by simp)).1 h e)), ih fun y hy => hk y (by simp [hy])]
theorem vE_out {xs : List Ent} (hk : ∀ x ∈ xs, okE x) {c : Nat} (h : c < 1 ∨ 512 <= c) : vE xs c = 0 := by
 induction xs with
 | nil => rfl
 | cons x xs ih =>
  have := pcE_bd (hk x (by simp)).1
  rw [vE, if_neg (by omega), ih fun y hy => hk y (by simp [hy])]
theorem vE_some {xs : List Ent} {c : Nat} (h : vE xs c ≠ 0) : ∃ x ∈ xs, pcE x.a x.l = c := by
 induction xs with
 | nil => exact absurd rfl h
 | cons x xs ih =>
  rw [vE] at h
  split at h
  ·exact ⟨x, by simp, by assumption⟩
  ·obtain ⟨y, hy, e⟩ := ih h; exact ⟨y, by simp [hy], e⟩
def updV (v : Nat -> Int) (x : Nat) (n : Int) : Nat -> Int := fun c => if c = x then n else v c
theorem orZ_ite (p : Prop) [Decidable p] (n : Int) (o : Option Int) : orZ (if p then some n else o) = if p then n else orZ o := by split <;> rfl
theorem orZ_ite0 (p : Prop) [Decidable p] (o : Option Int) : orZ (if p then none else o) = if p then 0 else orZ o := by split <;> rfl
theorem place_pfx {c : Nat} (h1 : 1 <= c) (h2 : c < 512) : ∃ a l, isPfx a l = true /\ pcE a l = c := by
 have : ∃ i, i <= 8 /\ 2 ^ i <= c /\ c < 2 * 2 ^ i := by
  by_cases e1 : c < 2
  ·exact ⟨0, by omega, by simpa using h1, by simpa using e1⟩
  by_cases e2 : c < 4
  ·exact ⟨1, by omega, by simp; omega, by simpa using e2⟩
  by_cases e3 : c < 8
  ·exact ⟨2, by omega, by simp; omega, by simpa using e3⟩
  by_cases e4 : c < 16
  ·exact ⟨3, by omega, by simp; omega, by simpa using e4⟩
  by_cases e5 : c < 32
  ·exact ⟨4, by omega, by simp; omega, by simpa using e5⟩
  by_cases e6 : c < 64
  ·exact ⟨5, by omega, by simp; omega, by simpa using e6⟩
  by_cases e7 : c < 128
  ·exact ⟨6, by omega, by simp; omega, by simpa using e7⟩
  by_cases e8 : c < 256
  ·exact ⟨7, by omega, by simp; omega, by simpa using e8⟩
  exact ⟨8, by omega, by simp; omega, by simpa using h2⟩
 obtain ⟨i, hi, h3, h4⟩ := this
 refine ⟨(((c - 2 ^ i) * 2 ^ (8 - i) : Nat) : Int), (i : Int), ?_, ?_⟩
 ·rw [isPfx_iff]
  have : i = 0 ∨ i = 1 ∨ i = 2 ∨ i = 3 ∨ i = 4 ∨ i = 5 ∨ i = 6 ∨ i = 7 ∨ i = 8 := by omega
  rcases this with rfl | rfl | rfl | rfl | rfl | rfl | rfl | rfl | rfl <;> simp [wid] at h3 h4 ⊢ <;> omega
 ·unfold pcE pcn
  simp only [Int.toNat_natCast]
  have : i = 0 ∨ i = 1 ∨ i = 2 ∨ i = 3 ∨ i = 4 ∨ i = 5 ∨ i = 6 ∨ i = 7 ∨ i = 8 := by omega
  rcases this with rfl | rfl | rfl | rfl | rfl | rfl | rfl | rfl | rfl <;> simp at h3 h4 ⊢ <;> omega
theorem vE_put {xs : List Ent} (hs : Sorted xs) (hk : ∀ x ∈ xs, okE x) {a l n : Int} (h : okE ⟨a, l, n⟩) : vE (putE xs a l n) = updV (vE xs) (pcE a l) n := by
 have hk' := ok_put hk h
 funext c
 unfold updV
 by_cases hc : 1 <= c /\ c < 512
 ·obtain ⟨b, m, hp, rfl⟩ := place_pfx hc.1 hc.2
  rw [vE_get hk' hp, vE_get hk hp, getE_put hs, orZ_ite]
  by_cases e : a = b /\ l = m
  ·rw [if_pos e, if_pos (by rw [e.1, e.2])]
  ·rw [if_neg e, if_neg (fun e' => e (by have := pcE_inj hp h.1 e'; exact ⟨this.1.symm, this.2.symm⟩))]
 ·rw [vE_out hk' (by omega), vE_out hk (by omega)]
  have := pcE_bd h.1
  simp only at this
  rw [if_neg (by omega)]
theorem vE_del {xs : List Ent} (hs : Sorted xs) (hk : ∀ x ∈ xs, okE x) {a l : Int} (h : isPfx a l = true) : vE (delE xs a l) = updV (vE xs) (pcE a l) 0 := by
 have hk' := ok_del (a := a) (l := l) hk
 funext c
 unfold updV
 by_cases hc : 1 <= c /\ c < 512
 ·obtain ⟨b, m, hp, rfl⟩ := place_pfx hc.1 hc.2
  rw [vE_get hk' hp, vE_get hk hp, getE_del hs, orZ_ite0]
  by_cases e : a = b /\ l = m
  ·rw [if_pos e, if_pos (by rw [e.1, e.2])]
  ·rw [if_neg e, if_neg (fun e' => e (by have := pcE_inj hp h e'; exact ⟨this.1.symm, this.2.symm⟩))]
 ·rw [vE_out hk' (by omega), vE_out hk (by omega)]
  have := pcE_bd h
  rw [if_neg (by omega)]
def nd (v : Nat -> Int) (c : Nat) : Prop := ∃ d, anc c d /\ v d ≠ 0
theorem nd_iff (v : Nat -> Int) (c : Nat) : nd v c ↔ v c ≠ 0 ∨ nd v (2 * c) ∨ nd v (2 * c + 1) := by
 constructor
 ·rintro ⟨d, h, hv⟩
  rcases anc_half.1 h with rfl | h | h
  ·exact .inl hv
  ·exact .inr (.inl ⟨d, h, hv⟩)
  ·exact .inr (.inr ⟨d, h, hv⟩)
 ·rintro (h | ⟨d, h, hv⟩ | ⟨d, h, hv⟩)
  ·exact ⟨c, anc_refl c, h⟩
  ·exact ⟨d, anc_half.2 (.inr (.inl h)), hv⟩
  ·exact ⟨d, anc_half.2 (.inr (.inr h)), hv⟩
theorem nd_off {v : Nat -> Int} {x c : Nat} {n : Int} (h : ¬ anc c x) : nd (updV v x n) c ↔ nd v c := by
 constructor
 ·rintro ⟨d, hd, hv⟩
  refine ⟨d, hd, ?_⟩
  have : d ≠ x := fun e => h (e ▸ hd)
  simpa [updV, this] using hv
 ·rintro ⟨d, hd, hv⟩
  refine ⟨d, hd, ?_⟩
  have : d ≠ x := fun e => h (e ▸ hd)
  simpa [updV, this] using hv
theorem nd_on {v : Nat -> Int} {x c : Nat} {n : Int} (h : anc c x) (hn : n ≠ 0) : nd (updV v x n) c := ⟨x, h, by simpa [updV] using hn⟩
theorem updV_same {v : Nat -> Int} {x : Nat} (h : v x = 0) : updV v x 0 = v := by
 funext c
 unfold updV
 split
 ·subst_vars; exact h.symm
 ·rfl
def ancb (c x : Nat) : Bool := (List.range 10).any fun j => x / 2 ^ j == c
def ndb (xs : List Ent) (c : Nat) : Bool := xs.any fun x => ancb c (pcE x.a x.l)
theorem ancb_iff {c x : Nat} (hc : 1 <= c) (hx : x < 512) : ancb c x = true ↔ anc c x := by
 unfold ancb anc
 rw [List.any_eq_true]
 constructor
 ·rintro ⟨j, _, h⟩; exact ⟨j, by simpa using h⟩
 ·rintro ⟨j, h⟩
  refine ⟨j, ?_, by simpa using h⟩
  rw [List.mem_range]
  rcases Nat.lt_or_ge j 10 with h1 | h1
  ·exact h1
  ·have h2 : 2 ^ 10 <= 2 ^ j := Nat.pow_le_pow_right (by omega) h1
   rw [Nat.div_eq_of_lt (by omega)] at h; omega
theorem getE_of {xs : List Ent} (hs : Sorted xs) {x : Ent} (hx : x ∈ xs) : getE xs x.a x.l = some x.n := by
 induction xs with
 | nil => cases hx
 | cons y xs ih =>
  obtain ⟨hs1, hs2⟩ := sorted_tail hs
  rw [getE]
  rcases List.mem_cons.1 hx with rfl | h
  ·simp
  ·have := hs2 x h
   unfold klt at this
   rw [if_neg (by omega), ih hs1 h]
theorem ndb_iff {xs : List Ent} (hs : Sorted xs) (hk : ∀ x ∈ xs, okE x) {c : Nat} (hc : 1 <= c) : ndb xs c = true ↔ nd (vE xs) c := by
 unfold ndb nd
 rw [List.any_eq_true]
 constructor
 ·rintro ⟨x, hx, h⟩
  have hp := hk x hx
  refine ⟨pcE x.a x.l, (ancb_iff hc (pcE_bd hp.1).2).1 h, ?_⟩
  rw [vE_get hk hp.1, getE_of hs hx]
  simp [orZ]
  have := hp.2.1
  omega
 ·rintro ⟨d, hd, hv⟩
  obtain ⟨x, hx, rfl⟩ := vE_some hv
  exact ⟨x, hx, (ancb_iff hc (pcE_bd (hk x hx).1).2).2 hd⟩
def cntB (q : Nat -> Bool) : Nat -> Nat -> Int
 | 0, _ => 1
 | k + 1, c => 1 + (if q (2 * c) then cntB q k (2 * c) else 0) + (if q (2 * c + 1) then cntB q k (2 * c + 1) else 0)
theorem cntB_bd (q : Nat -> Bool) : ∀ k c, 1 <= cntB q k c /\ cntB q k c + 1 <= 2 * ((2 ^ k : Nat) : Int)
 | 0, _ => by simp [cntB]
 | k + 1, c => by
  have h1 := cntB_bd q k (2 * c)
  have h2 := cntB_bd q k (2 * c + 1)
  rw [cntB, Nat.pow_succ]
  split <;> split <;> omega
theorem cntB_congr {q r : Nat -> Bool} : ∀ k c, 1 <= c -> (∀ d, 2 <= d -> q d = r d) -> cntB q k c = cntB r k c
 | 0, _, _, _ => rfl
 | k + 1, c, hc, h => by rw [cntB, cntB, h _ (by omega), h _ (by omega), cntB_congr k _ (by omega) h, cntB_congr k _ (by omega) h]
end Go.Proofs.YtglbamalagacgaaGreat

namespace Go.Proofs.YtglbamalagacgaaGreat
open Go.RowKit
def ptrO (o : Option Nat) : Value := match o with
 | some b => ptrV b
 | none => .pointer none
theorem ptrO_some (b : Nat) : ptrO (some b) = ptrV b := rfl
theorem ptrO_none : ptrO none = .pointer none := rfl
def tyC (c : Nat) : TypeId := if c = 1 then 172 else 170
structure TrM (w : World) (B : Nat -> Option Nat) (v : Nat -> Int) : Prop where
 node : ∀ c b, B c = some b -> w.heap[b]? = some (.cells #[.int .i64 (v c), ptrO (B (2 * c)), ptrO (B (2 * c + 1))] (tyC c) (0, 0))
 inj : ∀ c d b, B c = some b -> B d = some b -> c = d
 dom : ∀ c b, B c = some b -> 1 <= c /\ c < 512
 up : ∀ c, 1 <= c -> B c = none -> B (2 * c) = none /\ B (2 * c + 1) = none
 off : ∀ c, B c = none -> v c = 0
theorem TrM.lt {w : World} {B : Nat -> Option Nat} {v : Nat -> Int} (h : TrM w B v) {c b : Nat} (hb : B c = some b) : b < w.heap.size := (Array.getElem?_eq_some_iff.1 (h.node c b hb)).1
theorem TrM.c0 {w : World} {B : Nat -> Option Nat} {v : Nat -> Int} (h : TrM w B v) {c b : Nat} (hb : B c = some b) : w.cell? ⟨b, 0, none⟩ = some (.int .i64 (v c)) := by simp [World.cell?, h.node c b hb]
theorem TrM.c1 {w : World} {B : Nat -> Option Nat} {v : Nat -> Int} (h : TrM w B v) {c b : Nat} (hb : B c = some b) : w.cell? ⟨b, 1, none⟩ = some (ptrO (B (2 * c))) := by simp [World.cell?, h.node c b hb]
theorem TrM.c2 {w : World} {B : Nat -> Option Nat} {v : Nat -> Int} (h : TrM w B v) {c b : Nat} (hb : B c = some b) : w.cell? ⟨b, 2, none⟩ = some (ptrO (B (2 * c + 1))) := by simp [World.cell?, h.node c b hb]
theorem TrM.fz {w : World} {B : Nat -> Option Nat} {v : Nat -> Int} (h : TrM w B v) {c b : Nat} (hb : B c = some b) (o : Nat) : w.frozen? ⟨b, o, none⟩ = false := by simp [World.frozen?, h.node c b hb]
theorem TrM.kept {w w' : World} {B : Nat -> Option Nat} {v : Nat -> Int} (h : TrM w B v) (hk : ∀ c b, B c = some b -> w'.heap[b]? = w.heap[b]?) : TrM w' B v :=
 ⟨fun c b hb => (hk c b hb).trans (h.node c b hb), h.inj, h.dom, h.up, h.off⟩
theorem TrM.later {w w' : World} {B : Nat -> Option Nat} {v : Nat -> Int} (h : TrM w B v) (hB : Below w.heap.size w w') : TrM w' B v := h.kept fun _ _ hb => hB.block _ (h.lt hb)
def FpB (B : Nat -> Option Nat) (F : List Nat) : Prop := ∀ b, b ∈ F ↔ ∃ c, B c = some b
theorem fp_ex {w : World} {B : Nat -> Option Nat} {v : Nat -> Int} (h : TrM w B v) : ∃ F, FpB B F := by
 refine ⟨(List.range 512).filterMap B, fun b => ?_⟩
 rw [List.mem_filterMap]
 constructor
 ·rintro ⟨c, _, hc⟩; exact ⟨c, hc⟩
 ·rintro ⟨c, hc⟩; exact ⟨c, List.mem_range.2 (h.dom c b hc).2, hc⟩
theorem TrM.make {w : World} {B : Nat -> Option Nat} {v : Nat -> Int} (h : TrM w B v) {c b s : Nat} (hb : B c = some b) (hs : s = 0 ∨ s = 1) (hc : c < 256) (hn : B (2 * c + s) = none) :
  TrM ((w.setCell ⟨b, 1 + s, none⟩ (ptrV w.heap.size)).alloc (.cells #[.int .i64 0, .pointer none, .pointer none] 170)) (fun d => if d = 2 * c + s then some w.heap.size else B d) v := by
 have hbl := h.lt hb
 have hc1 := (h.dom c b hb).1
 have hup := h.up (2 * c + s) (by omega) hn
 have hwb : ∀ d k, B d = some k -> k ≠ w.heap.size := fun d k hk => by have := h.lt hk; omega
 have hblk := h.node c b hb
 have hsz : (w.setCell ⟨b, 1 + s, none⟩ (ptrV w.heap.size)).heap.size = w.heap.size := by simp
 have hnew := World.alloc_heap_new (w.setCell ⟨b, 1 + s, none⟩ (ptrV w.heap.size)) (.cells #[.int .i64 0, .pointer none, .pointer none] 170)
 rw [hsz] at hnew
 have hold : ∀ k, k < w.heap.size -> ((w.setCell ⟨b, 1 + s, none⟩ (ptrV w.heap.size)).alloc (.cells #[.int .i64 0, .pointer none, .pointer none] 170)).heap[k]? = (w.setCell ⟨b, 1 + s, none⟩ (ptrV w.heap.size)).heap[k]? := fun k hk => Below.heap_alloc _ _ _ (by rw [hsz]; exact hk)
 refine ⟨fun d k hd => ?_, fun d e k hd he => ?_, fun d k hd => ?_, fun d hd1 hd => ?_, fun d hd => ?_⟩
 ·by_cases e1 : d = 2 * c + s
  ·rw [if_pos e1] at hd
   cases hd
   rw [hnew]
   subst e1
   rw [if_neg (by omega), if_neg (by omega), hup.1, hup.2, h.off _ hn]
   have : tyC (2 * c + s) = 170 := by unfold tyC; rw [if_neg (by omega)]
   rw [this]; rfl
  ·rw [if_neg e1] at hd
   by_cases e2 : d = c
   ·subst e2
    rw [hb] at hd
    cases hd
    rw [hold b hbl, setCell_eq_setRow _ b (1 + s) _ (tyC d) (0, 0) _ hblk, setRow_heap _ b _ _ _ _ hblk]
    rcases hs with rfl | rfl
    ·rw [if_pos (by omega), if_neg (by omega)]; rfl
    ·rw [if_neg (by omega), if_pos (by omega)]; rfl
   ·have hkb : k ≠ b := fun e => e2 (h.inj d c b (e ▸ hd) hb)
    rw [hold k (h.lt hd), Deep.blk_setCell_other _ _ _ _ hkb, h.node d k hd]
    have hcs : ∀ x, x / 2 = d -> (if x = 2 * c + s then some w.heap.size else B x) = B x := fun x hx => if_neg (by omega)
    rw [hcs (2 * d) (by omega), hcs (2 * d + 1) (by omega)]
 ·by_cases e1 : d = 2 * c + s
  ·rw [if_pos e1] at hd
   by_cases e2 : e = 2 * c + s
   ·omega
   ·rw [if_neg e2] at he
    cases hd
    exact absurd rfl (hwb e _ he)
  ·rw [if_neg e1] at hd
   by_cases e2 : e = 2 * c + s
   ·rw [if_pos e2] at he
    cases he
    exact absurd rfl (hwb d _ hd)
   ·rw [if_neg e2] at he
    exact h.inj d e k hd he
 ·by_cases e1 : d = 2 * c + s
  ·omega
  ·rw [if_neg e1] at hd; exact h.dom d k hd
 ·by_cases e1 : d = 2 * c + s
  ·rw [if_pos e1] at hd; cases hd
  ·rw [if_neg e1] at hd
   have h1 := h.up d hd1 hd
   have h2 : d ≠ c := fun e => by rw [e, hb] at hd; cases hd
   rw [if_neg (by omega), if_neg (by omega)]
   exact h1
 ·by_cases e1 : d = 2 * c + s
  ·rw [if_pos e1] at hd; cases hd
  ·rw [if_neg e1] at hd; exact h.off d hd
def HalfP (w : World) (B : Nat -> Option Nat) (v : Nat -> Int) (c b s : Nat) (r : Ending) (w' : World) : Prop :=
 ∃ B' nb, TrM w' B' v /\ B' (2 * c + s) = some nb /\ r = .returned (ptrV nb) /\ Only [b] w w' /\ (∀ d, d ≠ 2 * c + s -> B' d = B d) /\ (B (2 * c + s) = some nb ∨ (B (2 * c + s) = none /\ w.heap.size <= nb))
set_option maxHeartbeats 400000 in
theorem half_any (w : World) (B : Nat -> Option Nat) (v : Nat -> Int) (c b s : Nat) (h : TrM w B v) (hb : B c = some b) (hs : s = 0 ∨ s = 1) (hc : c < 256) :
  Calls Tryz.prog 198 #[ptrV b, .int .i64 s] w (HalfP w B v c b s) := by
 have hbl := h.lt hb
 have c1 := h.c1 hb
 have c2 := h.c2 hb
 have fz := h.fz hb
 have n1 : w.heap.size ≠ b := by omega
 have n2 : b ≠ w.heap.size := by omega
 cases hn : B (2 * c + s) with
 | some nb =>
  have fin := hide (show HalfP w B v c b s (.returned (ptrV nb)) w from ⟨B, nb, h, hn, rfl, Only.refl _ _, fun _ _ => rfl, .inl hn⟩)
  clear h
  rcases hs with rfl | rfl
  ·rw [Nat.add_zero] at hn
   rw [hn, ptrO_some] at c1
   clear hn c2
   go_enter Tryz.func198, Tryz.ntmps198
   go_wp2
   go_ret
   exact fin.out
  ·rw [hn, ptrO_some] at c2
   clear hn c1
   go_enter Tryz.func198, Tryz.ntmps198
   go_wp2
   go_ret
   exact fin.out
 | none =>
  have hm := h.make hb hs hc hn
  have fin := hide (show HalfP w B v c b s (.returned (ptrV w.heap.size)) ((w.setCell ⟨b, 1 + s, none⟩ (ptrV w.heap.size)).alloc (.cells #[.int .i64 0, .pointer none, .pointer none] 170)) from
   ⟨_, w.heap.size, hm, by simp, rfl, ⟨rfl, rfl, rfl, by simp, fun k hk hk' => by
    rw [Below.heap_alloc _ _ _ (by simpa using hk), Deep.blk_setCell_other _ _ _ _ (by simpa using hk')]⟩, fun d hd => if_neg hd, .inr ⟨hn, Nat.le_refl _⟩⟩)
  clear hm h
  rcases hs with rfl | rfl
  ·rw [Nat.add_zero] at hn
   rw [hn, ptrO_none] at c1
   clear hn c2
   go_enter Tryz.func198, Tryz.ntmps198
   go_wp2
   go_ret
   exact fin.out
  ·rw [hn, ptrO_none] at c2
   clear hn c1
   go_enter Tryz.func198, Tryz.ntmps198
   go_wp2
   go_ret
   exact fin.out
end Go.Proofs.YtglbamalagacgaaGreat

namespace Go.Proofs.YtglbamalagacgaaGreat
open Go.RowKit
def ExB (B : Nat -> Option Nat) (v : Nat -> Int) : Prop := ∀ c, 2 <= c -> ((B c).isSome = true ↔ nd v c)
def TrieF (w : World) (p : Nat) (xs : List Ent) (F : List Nat) : Prop := ∃ B, TrM w B (vE xs) /\ B 1 = some p /\ ExB B (vE xs) /\ FpB B F
theorem TrieF.lt {w : World} {p : Nat} {xs : List Ent} {F : List Nat} (h : TrieF w p xs F) : ∀ k ∈ F, k < w.heap.size := by
 obtain ⟨B, h1, h2, h3, hF⟩ := h
 intro k hk
 obtain ⟨c, hc⟩ := (hF k).1 hk
 exact h1.lt hc
theorem TrieF.cells {w : World} {p : Nat} {xs : List Ent} {F : List Nat} (h : TrieF w p xs F) : ∀ k ∈ F, ∃ o, w.heap[k]? = some o /\ o.isCells = true := by
 obtain ⟨B, h1, h2, h3, hF⟩ := h
 intro k hk
 obtain ⟨c, hc⟩ := (hF k).1 hk
 exact ⟨_, h1.node c k hc, rfl⟩
theorem TrieF.kept {w w' : World} {p : Nat} {xs : List Ent} {F : List Nat} (h : TrieF w p xs F) (hk : ∀ k ∈ F, w'.heap[k]? = w.heap[k]?) : TrieF w' p xs F := by
 obtain ⟨B, h1, h2, h3, hF⟩ := h
 exact ⟨B, h1.kept fun c b hb => hk b ((hF b).2 ⟨c, hb⟩), h2, h3, hF⟩
theorem TrieF.later {w w' : World} {p : Nat} {xs : List Ent} {F : List Nat} (h : TrieF w p xs F) (hB : Below w.heap.size w w') : TrieF w' p xs F := h.kept fun k hk => hB.block k (h.lt k hk)
theorem TrM.above {w : World} {B : Nat -> Option Nat} {v : Nat -> Int} (h : TrM w B v) {c : Nat} (hc : 1 <= c) : ∀ (j x : Nat), x / 2 ^ j = c -> (B x).isSome = true -> (B c).isSome = true
 | 0, x, hx, hb => by simp at hx; rwa [hx] at hb
 | j + 1, x, hx, hb => by
  have h1 : x / 2 ^ j / 2 = c := by rw [Nat.div_div_eq_div_mul, <- Nat.pow_succ]; exact hx
  have h2 := h.above (c := x / 2 ^ j) (by omega) j x rfl hb
  cases hn : B c with
  | some b => rfl
  | none =>
   have := h.up c hc hn
   rcases (show x / 2 ^ j = 2 * c ∨ x / 2 ^ j = 2 * c + 1 by omega) with e | e
   ·rw [e, this.1] at h2; cases h2
   ·rw [e, this.2] at h2; cases h2
theorem TrM.setV {w : World} {B : Nat -> Option Nat} {v : Nat -> Int} (h : TrM w B v) {c b : Nat} (hb : B c = some b) (n : Int) : TrM (w.setCell ⟨b, 0, none⟩ (.int .i64 n)) B (updV v c n) := by
 refine ⟨fun d k hd => ?_, h.inj, h.dom, h.up, fun d hd => ?_⟩
 ·by_cases e : d = c
  ·subst e
   rw [hb] at hd
   cases hd
   rw [setCell_eq_setRow _ b 0 _ (tyC d) (0, 0) _ (h.node d b hb), setRow_heap _ b _ _ _ _ (h.node d b hb)]
   simp [updV]
  ·have hk : k ≠ b := fun e' => e (h.inj d c b (e' ▸ hd) hb)
   rw [Deep.blk_setCell_other _ _ _ _ hk, h.node d k hd]
   simp [updV, e]
 ·have e : d ≠ c := fun e => by rw [e, hb] at hd; cases hd
  simp [updV, e, h.off d hd]
def LyI (W0 wr : World) (B : Nat -> Option Nat) (F : List Nat) (v : Nat -> Int) (A i nb : Nat) : Prop :=
 ∃ B', TrM wr B' v /\ B' (pcn A i) = some nb /\ Only F W0 wr /\ ∀ d, B' d = B d ∨ (B d = none /\ anc d (pcn A i) /\ ∃ k, B' d = some k /\ W0.heap.size <= k)
theorem LyI.step {W0 wr w2 : World} {B : Nat -> Option Nat} {F : List Nat} {v : Nat -> Int} {A i nb s : Nat} (hF : FpB B F) {B' : Nat -> Option Nat} (hi : i < 8) (h2 : B' (pcn A i) = some nb) (h3 : Only F W0 wr) (h4 : ∀ d, B' d = B d ∨ (B d = none /\ anc d (pcn A i) /\ ∃ k, B' d = some k /\ W0.heap.size <= k))
  (hs : pcn A (i + 1) = 2 * pcn A i + s) {r : Ending} (hp : HalfP wr B' v (pcn A i) nb s r w2) : ∃ nb', r = .returned (ptrV nb') /\ LyI W0 w2 B F v A (i + 1) nb' := by
 obtain ⟨B2, nb', g1, g2, rfl, g4, g5, g6⟩ := hp
 have hnb : nb ∈ F ∨ W0.heap.size <= nb := by
  rcases h4 (pcn A i) with e | ⟨_, _, k, e, hk⟩
  ·exact .inl ((hF _).2 ⟨_, by rw [<- e]; exact h2⟩)
  ·rw [h2] at e; cases e; exact .inr hk
 have hup : anc (pcn A i) (pcn A (i + 1)) := pcn_anc A (by omega) (by omega)
 refine ⟨nb', rfl, B2, g1, by rw [hs]; exact g2, h3.trans g4 (fun x hx => by simp at hx; subst hx; exact hnb), fun d => ?_⟩
 by_cases hd : d = 2 * pcn A i + s
 ·subst hd
  rcases g6 with g6 | ⟨g6, g7⟩
  ·rcases h4 (2 * pcn A i + s) with e | ⟨e1, e2, k, e3, e4⟩
   ·exact .inl (by rw [g2, <- g6, e])
   ·exact .inr ⟨e1, hs ▸ anc_refl _, nb', g2, by rw [g6] at e3; cases e3; exact e4⟩
  ·refine .inr ⟨?_, hs ▸ anc_refl _, nb', g2, by have := h3.size; omega⟩
   rcases h4 (2 * pcn A i + s) with e | ⟨e1, _⟩
   ·rw [<- e]; exact g6
   ·exact e1
 ·rw [g5 d hd]
  rcases h4 d with e | ⟨e1, e2, k, e3, e4⟩
  ·exact .inl e
  ·exact .inr ⟨e1, anc_trans e2 hup, k, e3, e4⟩
theorem LyI.done {w W0 wr : World} {p : Nat} {B : Nat -> Option Nat} {F : List Nat} {xs ys : List Ent} {A l nb : Nat} {n : Int} (hB0 : Below w.heap.size w W0) (hF : FpB B F) (hp : B 1 = some p) (hx : ExB B (vE xs)) (h : LyI W0 wr B F (vE xs) A l nb) (hn : n ≠ 0) (hv : vE ys = updV (vE xs) (pcn A l) n) :
  (∃ F', TrieF (wr.setCell ⟨nb, 0, none⟩ (.int .i64 n)) p ys F' /\ NewF w F F') /\ Only F w (wr.setCell ⟨nb, 0, none⟩ (.int .i64 n)) := by
 obtain ⟨B', h1, h2, h3, h4⟩ := h
 have hs := h1.setV h2 n
 rw [<- hv] at hs
 have hnb : nb ∈ F ∨ W0.heap.size <= nb := by
  rcases h4 (pcn A l) with e | ⟨_, _, k, e, hk⟩
  ·exact .inl ((hF _).2 ⟨_, by rw [<- e]; exact h2⟩)
  ·rw [h2] at e; cases e; exact .inr hk
 obtain ⟨F2, hF2⟩ := fp_ex hs
 refine ⟨⟨F2, ⟨B', hs, ?_, fun c hc => ?_, hF2⟩, fun k hk => ?_⟩, ?_⟩
 ·rcases h4 1 with e | ⟨e, _⟩
  ·rw [e]; exact hp
  ·rw [hp] at e; cases e
 ·rw [hv]
  by_cases ha : anc c (pcn A l)
  ·obtain ⟨j, hj⟩ := ha
   exact ⟨fun _ => nd_on ⟨j, hj⟩ hn, fun _ => h1.above (by omega) j _ hj (by rw [h2]; rfl)⟩
  ·rw [nd_off ha]
   rcases h4 c with e | ⟨_, e, _⟩
   ·rw [e]; exact hx c hc
   ·exact absurd e ha
 ·obtain ⟨c, hc⟩ := (hF2 k).1 hk
  rcases h4 c with e | ⟨_, _, k', e, hk'⟩
  ·exact .inl ((hF k).2 ⟨c, by rw [<- e]; exact hc⟩)
  ·rw [hc] at e; cases e; exact .inr (by have := hB0.size; omega)
 ·have hO : Only [nb] wr (wr.setCell ⟨nb, 0, none⟩ (.int .i64 n)) := ⟨rfl, rfl, rfl, by simp, fun k hk hk' => Deep.blk_setCell_other _ _ _ _ (by simpa using hk')⟩
  exact ((Only.of_below F hB0).trans h3 (fun x hx => .inl hx)).trans hO (fun x hx => by simp at hx; subst hx; exact hnb.imp id (fun h => by have := hB0.size; omega))
set_option maxHeartbeats 800000 in
theorem trLay_any (p : Nat) (xs : List Ent) (F : List Nat) (a l n : Int) (w : World) (hT : TrieF w p xs F) (hsx : Sorted xs) (hk : ∀ x ∈ xs, okE x) (hr : okE ⟨a, l, n⟩) :
  Calls Tryz.prog 192 #[ptrV p, rteV a l n] w fun r w' => (∃ F', TrieF w' p (putE xs a l n) F' /\ NewF w F F') /\ Only F w w' /\ r = .returned (.int .i64 (orZ (getE xs a l))) := by
 have hFl := hT.lt
 obtain ⟨B, hM, hp, hx, hF⟩ := hT
 obtain ⟨l0, l8, a0, a1, _⟩ := (isPfx_iff a l).1 hr.1
 have hv := vE_put hsx hk hr
 have hget := vE_get hk hr.1
 have hn0 : n ≠ 0 := by have := hr.2.1; simp only at this; omega
 obtain ⟨L, rfl⟩ : ∃ L : Nat, l = L := ⟨l.toNat, by omega⟩
 have hpc : pcE a L = pcn a.toNat L := rfl
 simp only [hpc] at hv hget
 have hB0 : Below w.heap.size w (w.alloc (.cells #[.int .i64 a, .int .i64 (L : Int), .int .i64 n] 90)) := (Below.refl _ w).alloc (Nat.le_refl _) _
 have hM0 := hM.later hB0
 have hpl := hM.lt hp
 have hwF : w.heap.size ∉ F := fun h => by have := hFl _ h; omega
 have hA : a.toNat < 256 := by omega
 have H0 : Hid (LyI (w.alloc (.cells #[.int .i64 a, .int .i64 (L : Int), .int .i64 n] 90)) (w.alloc (.cells #[.int .i64 a, .int .i64 (L : Int), .int .i64 n] 90)) B F (vE xs) a.toNat 0 p) :=
  ⟨B, hM0, by rw [pcn_zero hA]; exact hp, Only.refl _ _, fun d => .inl rfl⟩
 have Hfin : Hid (∀ wr nb, LyI (w.alloc (.cells #[.int .i64 a, .int .i64 (L : Int), .int .i64 n] 90)) wr B F (vE xs) a.toNat L nb -> (∃ F', TrieF (wr.setCell ⟨nb, 0, none⟩ (.int .i64 n)) p (putE xs a L n) F' /\ NewF w F F') /\ Only F w (wr.setCell ⟨nb, 0, none⟩ (.int .i64 n))) :=
  fun wr nb h => LyI.done hB0 hF hp hx h hn0 hv
 have HF := hide hF
 have Hget := hide hget
 clear hM hM0 hx hv hget hk hsx hB0 hr hF
 go_enter Tryz.func192, Tryz.ntmps192
 go_wp2
 go_loopw [5, 13] (fun pn sl wr => ∃ i nb : Nat, i <= L /\ pn = ptrV nb /\ sl = .int .i64 (i : Int) /\ Hid (LyI (w.alloc (.cells #[.int .i64 a, .int .i64 (L : Int), .int .i64 n] 90)) wr B F (vE xs) a.toNat i nb)) (fun _ s _ => L - (intOf s).toNat)
 case atStart => exact ⟨0, p, by omega, rfl, rfl, H0⟩
 case round =>
  obtain ⟨i, nb, hi, rfl, rfl, HI⟩ := hrel
  obtain ⟨B', h1, h2, h3, h4⟩ := HI.out
  have hwl : w.heap.size < wr.heap.size := by have := h3.size; simp at this; omega
  have b0 : wr.cell? ⟨w.heap.size, 0, none⟩ = some (.int .i64 a) := (h3.cell (by simp) hwF).trans (by simp [go_sem])
  have b1 : wr.cell? ⟨w.heap.size, 1, none⟩ = some (.int .i64 (L : Int)) := (h3.cell (by simp) hwF).trans (by simp [go_sem])
  have b2 : wr.cell? ⟨w.heap.size, 2, none⟩ = some (.int .i64 n) := (h3.cell (by simp) hwF).trans (by simp [go_sem])
  by_cases hlt : i < L
  ·have hw1 : IntKind.i64.wrap ((i : Int) + 1) = (i : Int) + 1 := by rw [IntKind.wrap_i64]; omega
   have hlt' : (i : Int) < (L : Int) := by omega
   obtain ⟨s, hs, hs01⟩ : ∃ s : Nat, sideI a i = (s : Int) /\ (s = 0 ∨ s = 1) := by
    rcases sideI_bd a i with h | h
    ·exact ⟨0, by rw [h]; rfl, .inl rfl⟩
    ·exact ⟨1, by rw [h]; rfl, .inr rfl⟩
   have hps : pcn a.toNat (i + 1) = 2 * pcn a.toNat i + s := by
    have := pcn_side (i := i) a0 a1 (by omega)
    rw [hs] at this
    omega
   have hc256 : pcn a.toNat i < 256 := by
    have := (pcn_pos (A := a.toNat) (i := i + 1) hA (by omega)).2
    omega
   have hsd := side_any a i (by omega) (by omega) a0 a1 wr
   rw [hs] at hsd
   have Hsd := hide hsd
   have hhf := hide (half_any wr B' (vE xs) (pcn a.toNat i) nb s h1 h2 hs01 hc256)
   have hst := hide (fun r w2 hp => LyI.step (v := vE xs) (r := r) (w2 := w2) HF.out (by omega) h2 h3 h4 hps hp)
   clear h1 h2 h3 h4 hsd hs hps
   go_wp2_with fail
   refine Hsd.out.mono ?_
   rintro _ w1 ⟨rfl, rfl⟩
   go_wp2_with fail
   refine hhf.out.mono ?_
   rintro r w2 hp2
   obtain ⟨nb', rfl, hI2⟩ := hst.out r w2 hp2
   have HI2 := hide hI2
   clear hp2 hI2 hst hhf Hsd
   go_wp2
   go_roundw
   case rel => exact ⟨i + 1, nb', by omega, rfl, by simp, HI2.out⟩
   case measure => simp [intOf]; omega
  ·obtain rfl : i = L := by omega
   have c0 := h1.c0 h2
   have fz := h1.fz h2
   have hnl := h1.lt h2
   have fin := hide (Hfin.out wr nb HI.out)
   have hge : ¬ ((i : Int) < (i : Int)) := by omega
   rw [Hget.out] at c0
   clear h1 h2 h3 h4
   go_wp2
   go_ret
   exact ⟨fin.out.1, fin.out.2, rfl⟩
end Go.Proofs.YtglbamalagacgaaGreat

namespace Go.Proofs.YtglbamalagacgaaGreat
open Go.RowKit
theorem ptrInfo : ∃ i, Tryz.prog.info? 167 = some i := by
 have h : (Tryz.prog.info? 167).isSome = true := by kernel_rfl
 cases hq : Tryz.prog.info? 167 with
 | none => rw [hq] at h; cases h
 | some i => exact ⟨i, rfl⟩
theorem arr_eql (w : World) (p1 p2 : Option Addr) : (Op.equalIn 9999 168 (.agg #[.pointer p1, .pointer p2]) (.agg #[.pointer none, .pointer none])).run Tryz.prog w = .ok (p1.isNone && p2.isNone) w := by
 obtain ⟨i, hi⟩ := ptrInfo
 have hc : Tryz.prog.cellsOf 167 = 1 := by kernel_rfl
 have hit := run_equalIn_array (P := Tryz.prog) (w := w) 9998 (t := 168) (e := 167) (n := 2) (i := i) #[.pointer p1, .pointer p2] #[.pointer none, .pointer none] Tryz.underlying168 hi
 have hq0 : ∀ (y z : Value) (w : World), (part 167 #[y, z] 0).run Tryz.prog w = .ok y w := fun y z w => by simp [go_sem]
 have hq1 : ∀ (y z : Value) (w : World), (part 167 #[y, z] 1).run Tryz.prog w = .ok z w := fun y z w => by simp [go_sem]
 have hpp : ∀ p : Option Addr, (Op.equalIn 9998 167 (.pointer p) (.pointer none)).run Tryz.prog w = .ok p.isNone w := fun p => run_equalIn_pointer_nil w 9997 167 p (by kernel_rfl)
 have hr : List.range 2 = [0, 1] := rfl
 rw [hit, hc, hr]
 simp only [Op.eqItems, Sem.run_bind, Nat.zero_mul, Nat.one_mul, hq0, Result.andThen_ok, hpp]
 cases p1.isNone <;> cases hb2 : p2.isNone <;> simp [hq1, hpp, hb2]
end Go.Proofs.YtglbamalagacgaaGreat

namespace Go.Proofs.YtglbamalagacgaaGreat
open Go.RowKit
theorem TrM.drop {w : World} {B : Nat -> Option Nat} {v : Nat -> Int} (h : TrM w B v) {c b s : Nat} (hb : B c = some b) (hs : s = 0 ∨ s = 1) (h1 : B (2 * (2 * c + s)) = none) (h2 : B (2 * (2 * c + s) + 1) = none) (hv : v (2 * c + s) = 0) :
  TrM (w.setCell ⟨b, 1 + s, none⟩ (.pointer none)) (fun d => if d = 2 * c + s then none else B d) v := by
 have hc1 := (h.dom c b hb).1
 refine ⟨fun d k hd => ?_, fun d e k hd he => ?_, fun d k hd => ?_, fun d hd1 hd => ?_, fun d hd => ?_⟩
 ·by_cases e1 : d = 2 * c + s
  ·rw [if_pos e1] at hd; cases hd
  ·rw [if_neg e1] at hd
   by_cases e2 : d = c
   ·subst e2
    rw [hb] at hd
    cases hd
    rw [setCell_eq_setRow _ b (1 + s) _ (tyC d) (0, 0) _ (h.node d b hb), setRow_heap _ b _ _ _ _ (h.node d b hb)]
    rcases hs with rfl | rfl
    ·rw [if_pos (by omega), if_neg (by omega)]; rfl
    ·rw [if_neg (by omega), if_pos (by omega)]; rfl
   ·have hkb : k ≠ b := fun e => e2 (h.inj d c b (e ▸ hd) hb)
    rw [Deep.blk_setCell_other _ _ _ _ hkb, h.node d k hd]
    have hcs : ∀ x, x / 2 = d -> (if x = 2 * c + s then none else B x) = B x := fun x hx => if_neg (by omega)
    rw [hcs (2 * d) (by omega), hcs (2 * d + 1) (by omega)]
 ·by_cases e1 : d = 2 * c + s
  ·rw [if_pos e1] at hd; cases hd
  ·by_cases e2 : e = 2 * c + s
   ·rw [if_pos e2] at he; cases he
   ·rw [if_neg e1] at hd; rw [if_neg e2] at he; exact h.inj d e k hd he
 ·by_cases e1 : d = 2 * c + s
  ·rw [if_pos e1] at hd; cases hd
  ·rw [if_neg e1] at hd; exact h.dom d k hd
 ·by_cases e1 : d = 2 * c + s
  ·subst e1
   rw [if_neg (by omega), if_neg (by omega)]; exact ⟨h1, h2⟩
  ·rw [if_neg e1] at hd
   have h3 := h.up d hd1 hd
   constructor <;> (split; rfl)
   ·exact h3.1
   ·exact h3.2
 ·by_cases e1 : d = 2 * c + s
  ·rw [e1]; exact hv
  ·rw [if_neg e1] at hd; exact h.off d hd
def TkB (B B' : Nat -> Option Nat) (v : Nat -> Int) (c x : Nat) : Prop :=
 (∀ d, anc c d -> d ≠ c -> ((B' d).isSome = true ↔ nd (updV v x 0) d)) /\ (∀ d, ¬ (anc c d /\ d ≠ c) -> B' d = B d) /\ (∀ d, B' d = B d ∨ B' d = none)
theorem TkB.here {B : Nat -> Option Nat} {v : Nat -> Int} {x : Nat} (hx : ExB B v) (h1 : 1 <= x) : TkB B B v x x := by
 refine ⟨fun d hd hn => ?_, fun _ _ => rfl, fun _ => .inl rfl⟩
 have h2 : ¬ anc d x := fun h => hn (anc_antisymm h hd)
 have := anc_le hd
 rw [nd_off h2]
 exact hx d (by omega)
theorem TkB.none {B : Nat -> Option Nat} {v : Nat -> Int} {c x : Nat} (hx : ExB B v) (hv : v x = 0) (h1 : 1 <= c) : TkB B B v c x := by
 refine ⟨fun d hd hn => ?_, fun _ _ => rfl, fun _ => .inl rfl⟩
 have := anc_le hd
 rw [updV_same hv]
 exact hx d (by omega)
theorem half_anc {c s : Nat} (hs : s = 0 ∨ s = 1) : anc c (2 * c + s) := ⟨1, by omega⟩
theorem TkB.off {c s d x : Nat} (hs : s = 0 ∨ s = 1) (hh : anc (2 * c + s) x) (h1 : anc c d) (h2 : d ≠ c) (h3 : ¬ anc (2 * c + s) d) : ¬ anc d x := fun hd => by
 rcases anc_lin hh hd with h | h
 ·exact h3 h
 ·have hne : 2 * c + s ≠ d := fun e => h3 (e ▸ anc_refl _)
  have h4 := anc_parent h hne
  rw [show (2 * c + s) / 2 = c by omega] at h4
  exact h2 (anc_antisymm h4 h1)
theorem TkB.keep {B B1 : Nat -> Option Nat} {v : Nat -> Int} {c s x : Nat} (hs : s = 0 ∨ s = 1) (h1 : 1 <= c) (hx : ExB B v) (hh : anc (2 * c + s) x) (hB : (B (2 * c + s)).isSome = true) (h : TkB B B1 v (2 * c + s) x) (hn : nd (updV v x 0) (2 * c + s)) : TkB B B1 v c x := by
 obtain ⟨q1, q2, q3⟩ := h
 have q4 := q2 (2 * c + s) (fun h => h.2 rfl)
 refine ⟨fun d hd hne => ?_, fun d hd => q2 d (fun h => hd ⟨anc_trans (half_anc hs) h.1, fun e => by have := anc_le h.1; omega⟩), q3⟩
 by_cases e : d = 2 * c + s
 ·subst e; rw [q4]; exact ⟨fun _ => hn, fun _ => hB⟩
 ·by_cases e2 : anc (2 * c + s) d
  ·exact q1 d e2 e
  ·have := anc_le hd
   rw [q2 d (fun h => e2 h.1), nd_off (TkB.off hs hh hd hne e2)]
   exact hx d (by omega)
theorem TkB.cut {B B1 : Nat -> Option Nat} {v : Nat -> Int} {c s x : Nat} (hs : s = 0 ∨ s = 1) (h1 : 1 <= c) (hx : ExB B v) (hh : anc (2 * c + s) x) (h : TkB B B1 v (2 * c + s) x) (hn : ¬ nd (updV v x 0) (2 * c + s)) : TkB B (fun d => if d = 2 * c + s then Option.none else B1 d) v c x := by
 obtain ⟨q1, q2, q3⟩ := h
 refine ⟨fun d hd hne => ?_, fun d hd => ?_, fun d => ?_⟩ <;> dsimp only
 ·by_cases e : d = 2 * c + s
  ·rw [if_pos e, e]; exact ⟨fun h => (by cases h), fun h => absurd h hn⟩
  ·rw [if_neg e]
   by_cases e2 : anc (2 * c + s) d
   ·exact q1 d e2 e
   ·have := anc_le hd
    rw [q2 d (fun h => e2 h.1), nd_off (TkB.off hs hh hd hne e2)]
    exact hx d (by omega)
 ·have e : d ≠ 2 * c + s := fun e => hd ⟨e ▸ half_anc hs, by omega⟩
  rw [if_neg e]
  exact q2 d (fun h => hd ⟨anc_trans (half_anc hs) h.1, fun e => by have := anc_le h.1; omega⟩)
 ·by_cases e : d = 2 * c + s
  ·rw [if_pos e]; exact .inr rfl
  ·rw [if_neg e]; exact q3 d
theorem TkB.empty {B B1 : Nat -> Option Nat} {v : Nat -> Int} {h x : Nat} (h1 : 1 <= h) (q : TkB B B1 v h x) : ¬ nd (updV v x 0) h ↔ (updV v x 0) h = 0 /\ B1 (2 * h) = Option.none /\ B1 (2 * h + 1) = Option.none := by
 have a1 := q.1 (2 * h) ⟨1, by omega⟩ (by omega)
 have a2 := q.1 (2 * h + 1) ⟨1, by omega⟩ (by omega)
 rw [nd_iff]
 constructor
 ·intro hn
  refine ⟨Decidable.byContradiction fun e => hn (.inl e), ?_, ?_⟩
  ·cases e : B1 (2 * h) with
   | none => rfl
   | some k => exact absurd (.inr (.inl (a1.1 (by rw [e]; rfl)))) hn
  ·cases e : B1 (2 * h + 1) with
   | none => rfl
   | some k => exact absurd (.inr (.inr (a2.1 (by rw [e]; rfl)))) hn
 ·rintro ⟨e1, e2, e3⟩ (h | h | h)
  ·exact h e1
  ·have := a1.2 h; rw [e2] at this; cases this
  ·have := a2.2 h; rw [e3] at this; cases this
def TakeP (w : World) (B : Nat -> Option Nat) (F : List Nat) (v : Nat -> Int) (c x : Nat) (r : Ending) (w' : World) : Prop :=
 r = .returned (.int .i64 (v x)) /\ Only F w w' /\ ∃ B', TrM w' B' (updV v x 0) /\ TkB B B' v c x
abbrev pfxO (a l : Int) : Obj := .cells #[.int .i64 a, .int .i64 l] 65
set_option maxHeartbeats 800000 in
theorem take_here (w : World) (B : Nat -> Option Nat) (F : List Nat) (v : Nat -> Int) (a : Int) (L b : Nat) (h : TrM w B v) (hx : ExB B v) (hF : FpB B F) (hb : B (pcn a.toNat L) = some b) :
  Calls Tryz.prog 199 #[ptrV b, pfxV a L, .int .i64 L] w (TakeP w B F v (pcn a.toNat L) (pcn a.toNat L)) := by
 have hbl := h.lt hb
 have c0 := h.c0 hb
 have fz := h.fz hb
 have n1 : w.heap.size ≠ b := by omega
 have n2 : b ≠ w.heap.size := by omega
 have hc1 := (h.dom _ b hb).1
 have hs := h.setV hb 0
 have fin := hide (show TakeP w B F v (pcn a.toNat L) (pcn a.toNat L) (.returned (.int .i64 (v (pcn a.toNat L)))) ((w.setCell ⟨b, 0, none⟩ (.int .i64 0)).alloc (pfxO a L)) from
  ⟨rfl, ⟨rfl, rfl, rfl, by simp, fun k hk hk' => by
   have : k ≠ b := fun e => hk' (e ▸ (hF b).2 ⟨_, hb⟩)
   rw [Below.heap_alloc _ _ _ (by simpa using hk), Deep.blk_setCell_other _ _ _ _ this]⟩, B, hs.later ((Below.refl _ _).alloc (Nat.le_refl _) _), TkB.here hx hc1⟩)
 clear h hx hF hs
 generalize v (pcn a.toNat L) = old at *
 go_enter Tryz.func199, Tryz.ntmps199
 go_wp2
 go_ret
 exact fin.out
theorem upd_anc {v : Nat -> Int} {B : Nat -> Option Nat} {h x : Nat} (hx : ExB B v) (h2 : 2 <= h) (hh : anc h x) (hn : B h = none) : v x = 0 := by
 have h3 : ¬ nd v h := fun e => by have := (hx h h2).2 e; rw [hn] at this; cases this
 exact Decidable.byContradiction fun e => h3 ⟨x, hh, e⟩
set_option maxHeartbeats 800000 in
theorem take_void (w : World) (B : Nat -> Option Nat) (F : List Nat) (v : Nat -> Int) (a : Int) (L i b s : Nat) (h : TrM w B v) (hx : ExB B v) (hb : B (pcn a.toNat i) = some b) (hiL : i < L) (hL : L <= 8) (a0 : 0 <= a) (a1 : a < 256)
  (hs : sideI a i = (s : Int)) (hs01 : s = 0 ∨ s = 1) (hps : pcn a.toNat (i + 1) = 2 * pcn a.toNat i + s) (hn : B (2 * pcn a.toNat i + s) = none) :
  Calls Tryz.prog 199 #[ptrV b, pfxV a L, .int .i64 i] w (TakeP w B F v (pcn a.toNat i) (pcn a.toNat L)) := by
 have hbl := h.lt hb
 have hbl1 : b < w.heap.size + 1 := by omega
 have c1 := h.c1 hb
 have c2 := h.c2 hb
 have hc1 := (h.dom _ b hb).1
 have hanc : anc (2 * pcn a.toNat i + s) (pcn a.toNat L) := hps ▸ pcn_anc _ (by omega) hL
 have hvx := upd_anc hx (by omega) hanc hn
 have fin := hide (show TakeP w B F v (pcn a.toNat i) (pcn a.toNat L) (.returned (.int .i64 0)) (w.alloc (pfxO a L)) from
  ⟨by rw [hvx], Only.of_below _ ((Below.refl _ w).alloc (Nat.le_refl _) _), B, by rw [updV_same hvx]; exact h.later ((Below.refl _ w).alloc (Nat.le_refl _) _), TkB.none hx hvx hc1⟩)
 have hsd := side_any a i (by omega) (by omega) a0 a1 (w.alloc (pfxO a L))
 rw [hs] at hsd
 have Hsd := hide hsd
 have hne : ((i : Int) == (L : Int)) = false := by simp; omega
 clear h hx hsd
 rcases hs01 with rfl | rfl
 ·rw [Nat.add_zero] at hn
  rw [hn, ptrO_none] at c1
  clear hn c2 hs
  go_enter Tryz.func199, Tryz.ntmps199
  go_wp2_with fail
  refine Hsd.out.mono ?_
  rintro _ w1 ⟨rfl, rfl⟩
  go_wp2
  go_ret
  exact fin.out
 ·rw [hn, ptrO_none] at c2
  clear hn c1 hs
  go_enter Tryz.func199, Tryz.ntmps199
  go_wp2_with fail
  refine Hsd.out.mono ?_
  rintro _ w1 ⟨rfl, rfl⟩
  go_wp2
  go_ret
  exact fin.out
theorem TakeP.up {w w2 w3 : World} {B B' : Nat -> Option Nat} {F : List Nat} {v : Nat -> Int} {c x : Nat} {r : Ending} (hB : Below w.heap.size w w2) (hO : Only F w2 w3) (hr : r = .returned (.int .i64 (v x))) (hM : TrM w3 B' (updV v x 0)) (hT : TkB B B' v c x) : TakeP w B F v c x r w3 :=
 ⟨hr, (Only.of_below F hB).trans hO (fun _ h => .inl h), B', hM, hT⟩
set_option maxHeartbeats 1600000 in
theorem take_down (w : World) (B : Nat -> Option Nat) (F : List Nat) (v : Nat -> Int) (a : Int) (L i b s hb' : Nat) (h : TrM w B v) (hx : ExB B v) (hF : FpB B F) (hb : B (pcn a.toNat i) = some b) (hiL : i < L) (hL : L <= 8) (a0 : 0 <= a) (a1 : a < 256)
  (hs : sideI a i = (s : Int)) (hs01 : s = 0 ∨ s = 1) (hps : pcn a.toNat (i + 1) = 2 * pcn a.toNat i + s) (hn : B (2 * pcn a.toNat i + s) = some hb')
  (ih : ∀ W, Below w.heap.size w W -> Calls Tryz.prog 199 #[ptrV hb', pfxV a L, .int .i64 ((i : Int) + 1)] W (TakeP W B F v (2 * pcn a.toNat i + s) (pcn a.toNat L))) :
  Calls Tryz.prog 199 #[ptrV b, pfxV a L, .int .i64 i] w (TakeP w B F v (pcn a.toNat i) (pcn a.toNat L)) := by
 have hbl := h.lt hb
 have hbl1 : b < w.heap.size + 1 := by omega
 have c1 := h.c1 hb
 have c2 := h.c2 hb
 have hc1 := (h.dom _ b hb).1
 have hanc : anc (2 * pcn a.toNat i + s) (pcn a.toNat L) := hps ▸ pcn_anc _ (by omega) hL
 have hsd := side_any a i (by omega) (by omega) a0 a1 (w.alloc (pfxO a L))
 rw [hs] at hsd
 have Hsd := hide hsd
 have hne : ((i : Int) == (L : Int)) = false := by simp; omega
 have hB1 : Below w.heap.size w (w.alloc (pfxO a L)) := (Below.refl _ w).alloc (Nat.le_refl _) _
 have Hih := hide (ih _ hB1)
 have hw1 : IntKind.i64.wrap ((i : Int) + 1) = (i : Int) + 1 := by rw [IntKind.wrap_i64]; omega
 have hwF : w.heap.size ∉ F := fun hh => by obtain ⟨c, hc⟩ := (hF _).1 hh; have := h.lt hc; omega
 have hbF : b ∈ F := (hF b).2 ⟨_, hb⟩
 have hhs : (B (2 * pcn a.toNat i + s)).isSome = true := by rw [hn]; rfl
 -- what is found behind it
 have Hafter := hide (show ∀ (w2 : World) (r : Ending), TakeP (w.alloc (pfxO a L)) B F v (2 * pcn a.toNat i + s) (pcn a.toNat L) r w2 →
   r = .returned (.int .i64 (v (pcn a.toNat L))) /\ ∃ (nv : Int) (o1 o2 : Option Nat), w2.cell? ⟨hb', 0, none⟩ = some (.int .i64 nv) /\ w2.cell? ⟨hb', 1, none⟩ = some (ptrO o1) /\ w2.cell? ⟨hb', 2, none⟩ = some (ptrO o2) /\ (∃ z, w2.cell? ⟨b, 1 + s, none⟩ = some z) /\ (∀ o, w2.frozen? ⟨b, o, none⟩ = false) /\ b < w2.heap.size /\ hb' < w2.heap.size ∧
    ((nv = 0 /\ o1 = none /\ o2 = none) -> TakeP w B F v (pcn a.toNat i) (pcn a.toNat L) (.returned (.int .i64 (v (pcn a.toNat L)))) (w2.setCell ⟨b, 1 + s, none⟩ (.pointer none))) ∧
    (¬ (nv = 0 /\ o1 = none /\ o2 = none) -> TakeP w B F v (pcn a.toNat i) (pcn a.toNat L) (.returned (.int .i64 (v (pcn a.toNat L)))) w2) by
  rintro w2 r ⟨rfl, hO, B1, hM1, hT1⟩
  have e1 : B1 (2 * pcn a.toNat i + s) = some hb' := (hT1.2.1 _ (fun h => h.2 rfl)).trans hn
  have e2 : B1 (pcn a.toNat i) = some b := (hT1.2.1 _ (fun h => by have := anc_le h.1; omega)).trans hb
  have hem := hT1.empty (by omega)
  refine ⟨rfl, _, _, _, hM1.c0 e1, hM1.c1 e1, hM1.c2 e1, ?_, hM1.fz e2, hM1.lt e2, hM1.lt e1, fun hz => ?_, fun hz => ?_⟩
  ·rcases hs01 with rfl | rfl
   ·exact ⟨_, hM1.c1 e2⟩
   ·exact ⟨_, hM1.c2 e2⟩
  ·have hnd := hem.2 hz
   refine TakeP.up hB1 (hO.trans (G := [b]) ⟨rfl, rfl, rfl, by simp, fun k _ hk' => Deep.blk_setCell_other _ _ _ _ (by simpa using hk')⟩ (fun x hx => by simp at hx; subst hx; exact .inl hbF)) rfl (hM1.drop e2 hs01 hz.2.1 hz.2.2 hz.1) (TkB.cut hs01 hc1 hx hanc hT1 hnd)
  ·have hnd : nd (updV v (pcn a.toNat L) 0) (2 * pcn a.toNat i + s) := Classical.byContradiction fun e => hz (hem.1 e)
   exact TakeP.up hB1 hO rfl hM1 (TkB.keep hs01 hc1 hx hanc hhs hT1 hnd))
 clear h hx hsd ih hF hhs hB1 hwF hbF hanc hps
 generalize TakeP w B F v (pcn a.toNat i) (pcn a.toNat L) = post at *
 rcases hs01 with rfl | rfl
 ·rw [Nat.add_zero] at hn
  rw [hn, ptrO_some] at c1
  clear hn c2 hs hb
  go_enter Tryz.func199, Tryz.ntmps199
  go_wp2_with fail
  refine Hsd.out.mono ?_
  rintro _ w1 ⟨rfl, rfl⟩
  go_wp2_with fail
  refine Hih.out.mono ?_
  rintro r w2 hp
  obtain ⟨rfl, nv, o1, o2, d0, d1, d2, ⟨z, d3⟩, fz, l1, l2, g1, g2⟩ := Hafter.out w2 r hp
  clear Hafter Hih hp Hsd
  obtain ⟨q1, e1, e1n⟩ : ∃ q1 : Option Addr, ptrO o1 = .pointer q1 /\ q1.isNone = o1.isNone := by cases o1 <;> exact ⟨_, rfl, rfl⟩
  obtain ⟨q2, e2, e2n⟩ : ∃ q2 : Option Addr, ptrO o2 = .pointer q2 /\ q2.isNone = o2.isNone := by cases o2 <;> exact ⟨_, rfl, rfl⟩
  rw [e1] at d1
  rw [e2] at d2
  have heq := arr_eql w2 q1 q2
  rw [e1n, e2n] at heq
  clear e1 e2 e1n e2n
  by_cases hnv : nv = 0
  ·subst hnv
   cases hob : (o1.isNone && o2.isNone) with
   | true =>
    rw [hob] at heq
    have fin := hide (g1 ⟨rfl, by simpa using hob⟩)
    clear g1 g2 hob
    go_wp2
    exact fin.out
   | false =>
    rw [hob] at heq
    have fin := hide (g2 (fun h => by rw [h.2.1, h.2.2] at hob; cases hob))
    clear g1 g2 hob
    go_wp2
    exact fin.out
  ·have fin := hide (g2 (fun h => hnv h.1))
   have hnv' : (nv == 0) = false := by simpa using hnv
   clear g1 g2 heq
   go_wp2
   exact fin.out
 ·rw [hn, ptrO_some] at c2
  clear hn c1 hs hb
  go_enter Tryz.func199, Tryz.ntmps199
  go_wp2_with fail
  refine Hsd.out.mono ?_
  rintro _ w1 ⟨rfl, rfl⟩
  go_wp2_with fail
  refine Hih.out.mono ?_
  rintro r w2 hp
  obtain ⟨rfl, nv, o1, o2, d0, d1, d2, ⟨z, d3⟩, fz, l1, l2, g1, g2⟩ := Hafter.out w2 r hp
  clear Hafter Hih hp Hsd
  obtain ⟨q1, e1, e1n⟩ : ∃ q1 : Option Addr, ptrO o1 = .pointer q1 /\ q1.isNone = o1.isNone := by cases o1 <;> exact ⟨_, rfl, rfl⟩
  obtain ⟨q2, e2, e2n⟩ : ∃ q2 : Option Addr, ptrO o2 = .pointer q2 /\ q2.isNone = o2.isNone := by cases o2 <;> exact ⟨_, rfl, rfl⟩
  rw [e1] at d1
  rw [e2] at d2
  have heq := arr_eql w2 q1 q2
  rw [e1n, e2n] at heq
  clear e1 e2 e1n e2n
  by_cases hnv : nv = 0
  ·subst hnv
   cases hob : (o1.isNone && o2.isNone) with
   | true =>
    rw [hob] at heq
    have fin := hide (g1 ⟨rfl, by simpa using hob⟩)
    clear g1 g2 hob
    go_wp2
    exact fin.out
   | false =>
    rw [hob] at heq
    have fin := hide (g2 (fun h => by rw [h.2.1, h.2.2] at hob; cases hob))
    clear g1 g2 hob
    go_wp2
    exact fin.out
  ·have fin := hide (g2 (fun h => hnv h.1))
   have hnv' : (nv == 0) = false := by simpa using hnv
   clear g1 g2 heq
   go_wp2
   exact fin.out
theorem side_nat (a : Int) (i : Nat) : ∃ s : Nat, sideI a i = (s : Int) /\ (s = 0 ∨ s = 1) := by
 rcases sideI_bd a i with h | h
 ·exact ⟨0, by rw [h]; rfl, .inl rfl⟩
 ·exact ⟨1, by rw [h]; rfl, .inr rfl⟩
theorem take_any (B : Nat -> Option Nat) (F : List Nat) (v : Nat -> Int) (a : Int) (L : Nat) (hx : ExB B v) (hF : FpB B F) (hL : L <= 8) (a0 : 0 <= a) (a1 : a < 256) :
  ∀ (k i b : Nat) (w : World), i + k = L -> TrM w B v -> B (pcn a.toNat i) = some b -> Calls Tryz.prog 199 #[ptrV b, pfxV a L, .int .i64 i] w (TakeP w B F v (pcn a.toNat i) (pcn a.toNat L))
 | 0, i, b, w, hk, h, hb => by
  obtain rfl : i = L := by omega
  exact take_here w B F v a i b h hx hF hb
 | k + 1, i, b, w, hk, h, hb => by
  obtain ⟨s, hs, hs01⟩ := side_nat a i
  have hps : pcn a.toNat (i + 1) = 2 * pcn a.toNat i + s := by
   have := pcn_side (i := i) a0 a1 (by omega)
   rw [hs] at this
   omega
  cases hn : B (2 * pcn a.toNat i + s) with
  | none => exact take_void w B F v a L i b s h hx hb (by omega) hL a0 a1 hs hs01 hps hn
  | some hb' =>
   refine take_down w B F v a L i b s hb' h hx hF hb (by omega) hL a0 a1 hs hs01 hps hn (fun W hW => ?_)
   have := take_any B F v a L hx hF hL a0 a1 k (i + 1) hb' W (by omega) (h.later hW) (by rw [hps]; exact hn)
   rw [hps] at this
   exact this
set_option maxHeartbeats 400000 in
theorem trTake_any (p : Nat) (xs : List Ent) (F : List Nat) (a l : Int) (w : World) (hT : TrieF w p xs F) (hsx : Sorted xs) (hk : ∀ x ∈ xs, okE x) (hr : isPfx a l = true) :
  Calls Tryz.prog 193 #[ptrV p, pfxV a l] w fun r w' => (∃ F', TrieF w' p (delE xs a l) F' /\ NewF w F F') /\ Only F w w' /\ r = .returned (.int .i64 (orZ (getE xs a l))) := by
 have hFl := hT.lt
 obtain ⟨B, hM, hp, hx, hF⟩ := hT
 obtain ⟨l0, l8, a0, a1, _⟩ := (isPfx_iff a l).1 hr
 have hv := vE_del hsx hk hr
 have hget := vE_get hk hr
 obtain ⟨L, rfl⟩ : ∃ L : Nat, l = L := ⟨l.toNat, by omega⟩
 have hpc : pcE a L = pcn a.toNat L := rfl
 simp only [hpc] at hv hget
 have hB0 : Below w.heap.size w (w.alloc (pfxO a L)).drew := ((Below.refl _ w).alloc (Nat.le_refl _) _).drew
 have hA : a.toNat < 256 := by omega
 have htk := take_any B F (vE xs) a L hx hF (by omega) a0 a1 L 0 p (w.alloc (pfxO a L)).drew (by omega) (hM.later hB0) (by rw [pcn_zero hA]; exact hp)
 have hwF : w.heap.size ∉ F := fun h => by have := hFl _ h; omega
 have fin := hide (show ∀ r w2, TakeP (w.alloc (pfxO a L)).drew B F (vE xs) (pcn a.toNat 0) (pcn a.toNat L) r w2 -> r = .returned (.int .i64 (orZ (getE xs a L))) /\ (∀ o, w2.cell? ⟨w.heap.size, o, none⟩ = (w.alloc (pfxO a L)).drew.cell? ⟨w.heap.size, o, none⟩) /\ (∃ F', TrieF w2 p (delE xs a L) F' /\ NewF w F F') /\ Only F w w2 by
  rintro r w2 ⟨rfl, hO, B', h1, h2, h3, h4⟩
  rw [pcn_zero hA] at h2 h3
  rw [<- hv] at h1 h2
  have e1 : B' 1 = some p := (h3 1 (fun h => h.2 rfl)).trans hp
  obtain ⟨F2, hF2⟩ := fp_ex h1
  refine ⟨by rw [hget], fun o => hO.cell (by simp) hwF, ⟨F2, ⟨B', h1, e1, fun c hc => ?_, hF2⟩, fun k hk => ?_⟩, (Only.of_below F hB0).trans hO (fun x hx => .inl hx)⟩
  ·by_cases ha : anc 1 c
   ·exact h2 c ha (by omega)
   ·have hbc : B' c = none := by
     cases hb : B' c with
     | none => rfl
     | some b =>
      exfalso
      refine ha ?_
      have hd := h1.dom c b hb
      have : ∀ n c, c < n -> 1 <= c -> anc 1 c := by
       intro n
       induction n with
       | zero => intro c hc _; omega
       | succ n ih =>
        intro c hc h1
        by_cases e : c = 1
        ·rw [e]; exact anc_refl 1
        ·exact anc_trans (ih (c / 2) (by omega) (by omega)) ⟨1, by simp⟩
      exact this (c + 1) c (by omega) hd.1
    have hnd : ¬ nd (vE (delE xs a L)) c := fun ⟨d, hd, hvd⟩ => by
     have : ∀ n c, c < n -> 1 <= c -> anc 1 c := by
      intro n
      induction n with
      | zero => intro c hc _; omega
      | succ n ih =>
       intro c hc h1
       by_cases e : c = 1
       ·rw [e]; exact anc_refl 1
       ·exact anc_trans (ih (c / 2) (by omega) (by omega)) ⟨1, by simp⟩
     exact ha (this (c + 1) c (by omega) (by omega))
    rw [hbc]
    exact ⟨fun h => (by cases h), fun h => absurd h hnd⟩
  ·obtain ⟨c, hc⟩ := (hF2 k).1 hk
   rcases h4 c with e | e
   ·exact .inl ((hF k).2 ⟨c, by rw [<- e]; exact hc⟩)
   ·rw [hc] at e; cases e)
 have Htk := hide htk
 have hpl := hM.lt hp
 clear htk hM hx hF hv hget hB0
 go_enter Tryz.func193, Tryz.ntmps193
 go_wp2
 go_region_held3 (fun w' => w'.cell? ⟨w.heap.size, 0, none⟩ = some (.int .i64 a) /\ w'.cell? ⟨w.heap.size, 1, none⟩ = some (.int .i64 (L : Int))) (go_keep)
  (first
   | (go_at_call 199; refine Htk.out.mono ?_; rintro r w2 hp2; obtain ⟨rfl, hc2, hq⟩ := fin.out r w2 hp2))
 have Hq := hide hq
 clear hq hc2 hp2 fin Htk
 go_wp2
 go_ret
 exact ⟨Hq.out.1, Hq.out.2, rfl⟩
end Go.Proofs.YtglbamalagacgaaGreat

namespace Go.Proofs.YtglbamalagacgaaGreat
open Go.RowKit
theorem idx0 (x y : Value) (w : World) : (Instr.index 168 (.agg #[x, y]) (.int .i64 0)).run Tryz.prog w = .ok x w := by
 have hq0 : (part 167 #[x, y] 0).run Tryz.prog w = .ok x w := by simp [go_sem]
 simp [Instr.index, run_underlying Tryz.underlying168, asIntOf, hq0]
theorem idx1 (x y : Value) (w : World) : (Instr.index 168 (.agg #[x, y]) (.int .i64 1)).run Tryz.prog w = .ok y w := by
 have hq1 : (part 167 #[x, y] 1).run Tryz.prog w = .ok y w := by simp [go_sem]
 simp [Instr.index, run_underlying Tryz.underlying168, asIntOf, hq1]
set_option maxRecDepth 4000 in
set_option maxHeartbeats 800000 in
theorem count_node (w : World) (b : Nat) (n : Int) (o1 o2 : Option Nat) (m1 m2 : Int) (hb : w.cell? ⟨b, 0, none⟩ = some (.int .i64 n)) (c1 : w.cell? ⟨b, 1, none⟩ = some (ptrO o1)) (c2 : w.cell? ⟨b, 2, none⟩ = some (ptrO o2))
  (h1 : ∀ b1, o1 = some b1 -> Calls Tryz.prog 195 #[ptrV b1] w fun r w' => w' = w /\ r = .returned (.int .i64 m1)) (h2 : ∀ b2, o2 = some b2 -> Calls Tryz.prog 195 #[ptrV b2] w fun r w' => w' = w /\ r = .returned (.int .i64 m2))
  (hm1 : 0 <= m1 /\ m1 <= 1000) (hm2 : 0 <= m2 /\ m2 <= 1000) :
  Calls Tryz.prog 195 #[ptrV b] w fun r w' => w' = w /\ r = .returned (.int .i64 (1 + (if o1.isSome then m1 else 0) + (if o2.isSome then m2 else 0))) := by
 have hbl := World.block_lt_of_cell? w _ hb
 simp only at hbl
 have i0 := idx0
 have i1 := idx1
 have w1 : IntKind.i64.wrap (1 + m1) = 1 + m1 := by rw [IntKind.wrap_i64]; omega
 have w2 : IntKind.i64.wrap (1 + m2) = 1 + m2 := by rw [IntKind.wrap_i64]; omega
 have w3 : IntKind.i64.wrap (1 + m1 + m2) = 1 + m1 + m2 := by rw [IntKind.wrap_i64]; omega
 cases o1 with
 | none =>
  rw [ptrO_none] at c1
  cases o2 with
  | none =>
   rw [ptrO_none] at c2
   clear h1 h2
   go_enter Tryz.func195, Tryz.ntmps195
   go_wp2
   refine wp_loop_rounds 3 ?_
   rw [rounds_succ]
   go_wp2
   rw [rounds_succ]
   go_wp2
   rw [rounds_succ]
   go_wp2
   go_ret
   exact ⟨rfl, rfl⟩
  | some b2 =>
   rw [ptrO_some] at c2
   have H2 := hide (h2 b2 rfl)
   clear h1 h2
   go_enter Tryz.func195, Tryz.ntmps195
   go_wp2
   refine wp_loop_rounds 3 ?_
   rw [rounds_succ]
   go_wp2
   rw [rounds_succ]
   go_wp2_with fail
   refine H2.out.mono ?_
   rintro _ w' ⟨rfl, rfl⟩
   go_wp2
   rw [rounds_succ]
   go_wp2
   go_ret
   exact ⟨rfl, ret_int (by simp)⟩
 | some b1 =>
  rw [ptrO_some] at c1
  have H1 := hide (h1 b1 rfl)
  cases o2 with
  | none =>
   rw [ptrO_none] at c2
   clear h1 h2
   go_enter Tryz.func195, Tryz.ntmps195
   go_wp2
   refine wp_loop_rounds 3 ?_
   rw [rounds_succ]
   go_wp2_with fail
   refine H1.out.mono ?_
   rintro _ w' ⟨rfl, rfl⟩
   go_wp2
   rw [rounds_succ]
   go_wp2
   rw [rounds_succ]
   go_wp2
   go_ret
   exact ⟨rfl, ret_int (by simp)⟩
  | some b2 =>
   rw [ptrO_some] at c2
   have H2 := hide (h2 b2 rfl)
   clear h1 h2
   go_enter Tryz.func195, Tryz.ntmps195
   go_wp2
   refine wp_loop_rounds 3 ?_
   rw [rounds_succ]
   go_wp2_with fail
   refine H1.out.mono ?_
   rintro _ w' ⟨rfl, rfl⟩
   go_wp2
   rw [rounds_succ]
   go_wp2_with fail
   refine H2.out.mono ?_
   rintro _ w'' ⟨rfl, rfl⟩
   go_wp2
   rw [rounds_succ]
   go_wp2
   go_ret
   exact ⟨rfl, ret_int (by simp)⟩
theorem count_any (B : Nat -> Option Nat) (v : Nat -> Int) (w : World) (h : TrM w B v) :
  ∀ (k c b : Nat), k <= 8 -> B c = some b -> 512 <= c * 2 ^ (k + 1) -> Calls Tryz.prog 195 #[ptrV b] w fun r w' => w' = w /\ r = .returned (.int .i64 (cntB (fun d => (B d).isSome) k c))
 | 0, c, b, _, hb, hc => by
  have hz : ∀ d, 512 <= d -> B d = none := fun d hd => by
   cases e : B d with
   | none => rfl
   | some x => have := (h.dom d x e).2; omega
  have e1 := hz (2 * c) (by simp at hc; omega)
  have e2 := hz (2 * c + 1) (by simp at hc; omega)
  have := count_node w b (v c) (B (2 * c)) (B (2 * c + 1)) 0 0 (h.c0 hb) (h.c1 hb) (h.c2 hb) (fun b1 e => by rw [e1] at e; cases e) (fun b1 e => by rw [e2] at e; cases e) (by omega) (by omega)
  rw [e1, e2] at this
  simpa [cntB] using this
 | k + 1, c, b, hk, hb, hc => by
  have hp : c * 2 ^ (k + 1 + 1) = 2 * c * 2 ^ (k + 1) := by rw [Nat.pow_succ 2 (k + 1), Nat.mul_comm (2 ^ (k + 1)) 2, <- Nat.mul_assoc, Nat.mul_comm c 2]
  have hp2 : 2 ^ k <= 2 ^ 8 := Nat.pow_le_pow_right (by omega) (by omega)
  have q1 := cntB_bd (fun d => (B d).isSome) k (2 * c)
  have q2 := cntB_bd (fun d => (B d).isSome) k (2 * c + 1)
  have hle : 2 * c * 2 ^ (k + 1) <= (2 * c + 1) * 2 ^ (k + 1) := Nat.mul_le_mul_right _ (by omega)
  have := count_node w b (v c) (B (2 * c)) (B (2 * c + 1)) (cntB (fun d => (B d).isSome) k (2 * c)) (cntB (fun d => (B d).isSome) k (2 * c + 1)) (h.c0 hb) (h.c1 hb) (h.c2 hb)
   (fun b1 e => count_any B v w h k (2 * c) b1 (by omega) e (by omega)) (fun b2 e => count_any B v w h k (2 * c + 1) b2 (by omega) e (by omega)) (by omega) (by omega)
  rw [cntB]
  exact this
def trieN (xs : List Ent) : Int := cntB (ndb xs) 8 1
theorem trieN_bd (xs : List Ent) : 1 <= trieN xs /\ trieN xs <= 511 := by
 have := cntB_bd (ndb xs) 8 1
 unfold trieN
 simp at this
 omega
set_option maxHeartbeats 400000 in
theorem trCells_any (p : Nat) (xs : List Ent) (F : List Nat) (w : World) (hT : TrieF w p xs F) (hsx : Sorted xs) (hk : ∀ x ∈ xs, okE x) :
  Calls Tryz.prog 190 #[ptrV p] w fun r w' => w' = w /\ r = .returned (.int .i64 (trieN xs)) := by
 obtain ⟨B, hM, hp, hx, hF⟩ := hT
 have hc := count_any B (vE xs) w hM 8 1 p (by omega) hp (by omega)
 have he : cntB (fun d => (B d).isSome) 8 1 = trieN xs := cntB_congr 8 1 (by omega) fun d hd => by
  rw [Bool.eq_iff_iff, ndb_iff hsx hk (by omega)]
  exact hx d hd
 rw [he] at hc
 have Hc := hide hc
 have hpl := hM.lt hp
 clear hM hx hF hc he
 go_enter Tryz.func190, Tryz.ntmps190
 go_wp2_with fail
 refine Hc.out.mono ?_
 rintro _ w' ⟨rfl, rfl⟩
 go_wp2
 go_ret
 exact ⟨rfl, rfl⟩
set_option maxHeartbeats 400000 in
theorem newTrie_any (w : World) :
  Calls Tryz.prog 95 #[] w fun r w' => Below w.heap.size w w' /\ ∃ p F, TrieF w' p [] F /\ (∀ k ∈ F, w.heap.size <= k) /\ r = .returned (ptrV p) := by
 have fin := hide (show ∃ F, TrieF (w.alloc (.cells #[.int .i64 0, .pointer none, .pointer none] 172)) w.heap.size [] F /\ (∀ k ∈ F, w.heap.size <= k) from by
  refine ⟨[w.heap.size], ⟨fun c => if c = 1 then some w.heap.size else none, ⟨fun c b hb => ?_, fun c d b hc hd => ?_, fun c b hc => ?_, fun c h1 hc => ?_, fun c hc => rfl⟩, rfl, fun c hc => ?_, fun b => ?_⟩, by simp⟩
  ·try dsimp only at hb ⊢
   split at hb
   ·rename_i e
    cases hb
    subst e
    exact World.alloc_heap_new w _
   ·cases hb
  ·try dsimp only at hc hd
   split at hc
   ·split at hd
    ·omega
    ·cases hd
   ·cases hc
  ·try dsimp only at hc
   split at hc
   ·omega
   ·cases hc
  ·try dsimp only
   exact ⟨if_neg (by omega), if_neg (by omega)⟩
  ·try dsimp only
   rw [if_neg (by omega)]
   exact ⟨fun h => (by cases h), fun ⟨d, _, h⟩ => absurd rfl h⟩
  ·try dsimp only
   constructor
   ·intro h; exact ⟨1, by simp at h; simp [h]⟩
   ·rintro ⟨c, h⟩
    split at h
    ·cases h; simp
    ·cases h)
 go_enter Tryz.func95, Tryz.ntmps95
 go_wp2
 go_ret
 obtain ⟨F, h1, h2⟩ := fin.out
 exact ⟨(by repeat (first | exact Below.refl _ _ | refine below_drewN ?_ _ | refine Below.drew ?_ | refine Below.trans ?_ (Below.mono (by assumption) ?_) | refine Below.alloc ?_ ?_ _ | refine Below.setCell ?_ ?_ _ | omega | (simp; omega) | simp)), w.heap.size, F, h1, h2, rfl⟩
end Go.Proofs.YtglbamalagacgaaGreat

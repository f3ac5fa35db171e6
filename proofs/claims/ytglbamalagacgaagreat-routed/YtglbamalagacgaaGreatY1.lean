import Derived.Test.YtglbamalagacgaaGreatF1
import Derived.Test.YtglbamalagacgaaGreatL2
import Derived.BigQuiet
namespace Go.Proofs.YtglbamalagacgaaGreat
open Go.RowKit Go.Shelf
def keyE (x : Ent) (a l : Int) : Prop := x.a = a /\ x.l = l
instance (x : Ent) (a l : Int) : Decidable (keyE x a l) := by unfold keyE; infer_instance
def goneU (ls : List Ent) (a l : Int) : List Ent := ls.filter fun x => !decide (keyE x a l)
def laidU (ls : List Ent) (x : Ent) : List Ent := goneU ls x.a x.l ++ [x]
def DistU (ls : List Ent) : Prop := ls.Pairwise fun x y => ¬ keyE x y.a y.l
structure Rep (ls xs : List Ent) : Prop where
 mem : ∀ x, x ∈ ls ↔ x ∈ xs
 dist : DistU ls
theorem sorted_dist : ∀ {xs : List Ent}, Sorted xs -> DistU xs
 | [], _ => List.Pairwise.nil
 | x :: xs, hs => by
  obtain ⟨h1, h2⟩ := sorted_tail hs
  refine List.pairwise_cons.2 ⟨fun y hy hk => ?_, sorted_dist h1⟩
  have := h2 y hy
  obtain ⟨e1, e2⟩ := hk
  unfold klt at this
  omega
theorem dist_len : ∀ {ls xs : List Ent}, DistU ls -> DistU xs -> (∀ x, x ∈ ls ↔ x ∈ xs) -> ls.length = xs.length
 | [], xs, _, _, h => by
  cases xs with
  | nil => rfl
  | cons x xs => have := (h x).2 (by simp); cases this
 | x :: ls, xs, hl, hx, h => by
  obtain ⟨p1, p2⟩ := List.pairwise_cons.1 hl
  obtain ⟨us, vs, rfl⟩ := List.append_of_mem ((h x).1 (by simp))
  obtain ⟨q1, q2, q3⟩ := List.pairwise_append.1 hx
  obtain ⟨q4, q5⟩ := List.pairwise_cons.1 q2
  have hx' : DistU (us ++ vs) := List.pairwise_append.2 ⟨q1, q5, fun a ha b hb => q3 a ha b (by simp [hb])⟩
  have := dist_len p2 hx' fun y => by
   have hy := h y
   constructor
   ·intro hm
    have h2 := hy.1 (by simp [hm])
    rcases List.mem_append.1 h2 with h3 | h3
    ·simp [h3]
    ·rcases List.mem_cons.1 h3 with rfl | h3
     ·exact absurd ⟨rfl, rfl⟩ (p1 y hm)
     ·simp [h3]
   ·intro hm
    have h2 := hy.2 (by rcases List.mem_append.1 hm with h3 | h3 <;> simp [h3])
    rcases List.mem_cons.1 h2 with rfl | h2
    ·exfalso
     rcases List.mem_append.1 hm with h3 | h3
     ·exact q3 y h3 y (by simp) ⟨rfl, rfl⟩
     ·exact q4 y h3 ⟨rfl, rfl⟩
    ·exact h2
  simp only [List.length_cons, List.length_append] at this ⊢
  omega
theorem Rep.len {ls xs : List Ent} (h : Rep ls xs) (hs : Sorted xs) : ls.length = xs.length := dist_len h.dist (sorted_dist hs) h.mem
theorem Rep.nil : Rep [] [] := ⟨fun _ => Iff.rfl, List.Pairwise.nil⟩
theorem mem_getE {xs : List Ent} (hs : Sorted xs) {x : Ent} : x ∈ xs ↔ getE xs x.a x.l = some x.n := by
 constructor
 ·exact getE_of_memS hs
 ·intro h
  obtain ⟨y, hy, e1, e2, e3⟩ := getE_memS h
  obtain ⟨a, l, n⟩ := x
  obtain ⟨b, m, k⟩ := y
  simp only at e1 e2 e3
  subst e1; subst e2; subst e3
  exact hy
theorem goneU_dist {ls : List Ent} (h : DistU ls) (a l : Int) : DistU (goneU ls a l) := List.Pairwise.filter _ h
theorem Rep.gone {ls xs : List Ent} (h : Rep ls xs) (hs : Sorted xs) (a l : Int) : Rep (goneU ls a l) (delE xs a l) := by
 refine ⟨fun x => ?_, goneU_dist h.dist a l⟩
 unfold goneU
 rw [List.mem_filter, h.mem, mem_getE hs, mem_getE (delE_sorted hs), getE_del hs]
 by_cases hk : keyE x a l
 ·have hk2 : a = x.a /\ l = x.l := ⟨hk.1.symm, hk.2.symm⟩
  rw [if_pos hk2]
  simp [hk]
 ·have hk2 : ¬ (a = x.a /\ l = x.l) := fun h => hk ⟨h.1.symm, h.2.symm⟩
  rw [if_neg hk2]
  simp [hk]
theorem Rep.laid {ls xs : List Ent} (h : Rep ls xs) (hs : Sorted xs) (x : Ent) : Rep (laidU ls x) (putE xs x.a x.l x.n) := by
 refine ⟨fun y => ?_, ?_⟩
 ·unfold laidU goneU
  rw [List.mem_append, List.mem_filter, h.mem, mem_getE hs, mem_getE (putE_sorted hs), getE_put hs, List.mem_singleton]
  by_cases hk : keyE y x.a x.l
  ·have hk2 : x.a = y.a /\ x.l = y.l := ⟨hk.1.symm, hk.2.symm⟩
   rw [if_pos hk2]
   simp only [hk, decide_true, Bool.not_true, Bool.false_eq_true, and_false, false_or]
   constructor
   ·rintro rfl; rfl
   ·intro e
    obtain ⟨a, l, n⟩ := x
    obtain ⟨b, m, k⟩ := y
    simp only at hk2 e
    obtain ⟨rfl, rfl⟩ := hk2
    cases e
    rfl
  ·have hk2 : ¬ (x.a = y.a /\ x.l = y.l) := fun h => hk ⟨h.1.symm, h.2.symm⟩
   have hk3 : ¬ y = x := fun e => hk (by rw [e]; exact ⟨rfl, rfl⟩)
   rw [if_neg hk2]
   simp [hk, hk3]
 ·unfold laidU
  refine List.pairwise_append.2 ⟨goneU_dist h.dist _ _, List.pairwise_singleton _ _, fun y hy z hz => ?_⟩
  rw [List.mem_singleton] at hz
  subst hz
  have := (List.mem_filter.1 hy).2
  simpa using this
def idxU : List Ent -> Int -> Int -> Option Nat
 | [], _, _ => none
 | x :: ls, a, l => if keyE x a l then some 0 else (idxU ls a l).map (· + 1)
theorem idxU_some {ls : List Ent} {a l : Int} {i : Nat} (h : idxU ls a l = some i) : ∃ x, ls[i]? = some x /\ keyE x a l := by
 induction ls generalizing i with
 | nil => cases h
 | cons x ls ih =>
  rw [idxU] at h
  split at h
  ·cases h; exact ⟨x, rfl, by assumption⟩
  ·cases hq : idxU ls a l with
   | none => rw [hq] at h; cases h
   | some j =>
    rw [hq] at h
    cases h
    obtain ⟨y, h1, h2⟩ := ih hq
    exact ⟨y, by simpa using h1, h2⟩
theorem idxU_none {ls : List Ent} {a l : Int} (h : idxU ls a l = none) : ∀ x ∈ ls, ¬ keyE x a l := by
 induction ls with
 | nil => intro x hx; cases hx
 | cons x ls ih =>
  rw [idxU] at h
  split at h
  ·cases h
  ·rename_i hk
   intro y hy
   rcases List.mem_cons.1 hy with rfl | hy
   ·exact hk
   ·exact ih (by cases hq : idxU ls a l with | none => rfl | some j => rw [hq] at h; cases h) y hy
theorem idxU_first {ls : List Ent} {a l : Int} {i : Nat} {x : Ent} (hx : ls[i]? = some x) (hk : keyE x a l) (hb : ∀ j y, j < i -> ls[j]? = some y -> ¬ keyE y a l) : idxU ls a l = some i := by
 induction ls generalizing i with
 | nil => simp at hx
 | cons z ls ih =>
  rw [idxU]
  cases i with
  | zero => simp at hx; subst hx; rw [if_pos hk]
  | succ i =>
   rw [if_neg (hb 0 z (by omega) rfl), ih (i := i) (by simpa using hx) fun j y hj hy => hb (j + 1) y (by omega) (by simpa using hy)]
   rfl
theorem idxU_not {ls : List Ent} {a l : Int} (hb : ∀ (j : Nat) y, ls[j]? = some y -> ¬ keyE y a l) : idxU ls a l = none := by
 cases h : idxU ls a l with
 | none => rfl
 | some i =>
  obtain ⟨x, h1, h2⟩ := idxU_some h
  exact absurd h2 (hb i x h1)
theorem Rep.find {ls xs : List Ent} (h : Rep ls xs) (hs : Sorted xs) (a l : Int) : (idxU ls a l = none /\ getE xs a l = none) ∨ (∃ i n, idxU ls a l = some i /\ ls[i]? = some ⟨a, l, n⟩ /\ getE xs a l = some n) := by
 cases hi : idxU ls a l with
 | none =>
  left
  refine ⟨rfl, ?_⟩
  cases hg : getE xs a l with
  | none => rfl
  | some n =>
   obtain ⟨y, hy, e1, e2, _⟩ := getE_memS hg
   exact absurd ⟨e1, e2⟩ (idxU_none hi y ((h.mem y).2 hy))
 | some i =>
  right
  obtain ⟨x, h1, h2⟩ := idxU_some hi
  obtain ⟨xa, xl, xn⟩ := x
  obtain ⟨rfl, rfl⟩ := h2
  have := (mem_getE hs).1 ((h.mem _).1 (List.mem_of_getElem? h1))
  exact ⟨i, xn, rfl, h1, this⟩
def covers (x : Ent) (a : Int) : Prop := x.a <= a /\ a < x.a + wid x.l
instance (x : Ent) (a : Int) : Decidable (covers x a) := by unfold covers; infer_instance
theorem covers_iff {x : Ent} (hp : isPfx x.a x.l = true) {a : Int} (h0 : 0 <= a) : covers x a ↔ x.a = cov a x.l.toNat := by
 obtain ⟨l0, l8, a0, a1, am⟩ := (isPfx_iff _ _).1 hp
 obtain ⟨l, hl⟩ : ∃ l : Nat, x.l = l := ⟨x.l.toNat, by omega⟩
 unfold covers cov
 rw [hl] at am l8 ⊢
 simp only [Int.toNat_natCast]
 have e1 : l = 0 ∨ l = 1 ∨ l = 2 ∨ l = 3 ∨ l = 4 ∨ l = 5 ∨ l = 6 ∨ l = 7 ∨ l = 8 := by omega
 rcases e1 with rfl | rfl | rfl | rfl | rfl | rfl | rfl | rfl | rfl <;> simp [wid] at am ⊢ <;> omega
def BestI (ls : List Ent) (a : Int) (i : Nat) (b : Int) : Prop :=
 (b = -1 /\ ∀ j x, j < i -> ls[j]? = some x -> ¬ covers x a) ∨ ∃ (k : Nat) (y : Ent), b = k /\ k < i /\ ls[k]? = some y /\ covers y a /\ ∀ j x, j < i -> ls[j]? = some x -> covers x a -> x.l <= y.l
theorem blN_top {xs : List Ent} {a : Int} {m : Nat} : ∀ n, m < n -> (getE xs (cov a m) m).isSome = true -> (∀ j : Nat, m < j -> j < n -> (getE xs (cov a j) j).isSome = false) -> blN xs a n = some m
 | 0, h, _, _ => by omega
 | n + 1, h, h1, h2 => by
  rw [blN]
  by_cases hm : m = n
  ·subst hm; rw [if_pos h1]
  ·rw [if_neg (by rw [h2 n (by omega) (by omega)]; simp), blN_top n (by omega) h1 fun j hj hj2 => h2 j hj (by omega)]
theorem blN_no {xs : List Ent} {a : Int} : ∀ n, (∀ j : Nat, j < n -> (getE xs (cov a j) j).isSome = false) -> blN xs a n = none
 | 0, _ => rfl
 | n + 1, h => by rw [blN, if_neg (by rw [h n (by omega)]; simp), blN_no n fun j hj => h j (by omega)]
theorem Rep.best {ls xs : List Ent} (h : Rep ls xs) (hs : Sorted xs) (hk : ∀ x ∈ xs, okE x) {a : Int} (h0 : 0 <= a) {b : Int} (hb : BestI ls a ls.length b) : (b = -1 /\ bestE xs a = none) ∨ (∃ (k : Nat) (y : Ent), b = k /\ k < ls.length /\ ls[k]? = some y /\ bestE xs a = some y) := by
 have hin : ∀ j : Nat, j <= 8 -> (getE xs (cov a j) j).isSome = true -> ∃ x ∈ ls, x.a = cov a j /\ x.l = j /\ covers x a := fun j hj hg => by
  obtain ⟨x, hx, e1, e2⟩ := (isSome_mem hs _ _).1 hg
  refine ⟨x, (h.mem x).2 hx, e1, e2, (covers_iff (hk x hx).1 h0).2 ?_⟩
  rw [e2]; exact e1
 unfold bestE
 rw [best_bl]
 rcases hb with ⟨rfl, hn⟩ | ⟨k, y, rfl, hkl, hy, hc, hm⟩
 ·left
  refine ⟨rfl, ?_⟩
  rw [blN_no 9 fun j hj => ?_]
  ·rfl
  ·rw [Bool.eq_false_iff]
   intro hg
   obtain ⟨x, hx, _, _, hcx⟩ := hin j (by omega) hg
   obtain ⟨i, hi⟩ := List.mem_iff_getElem?.1 hx
   exact hn i x (List.getElem?_eq_some_iff.1 hi).1 hi hcx
 ·right
  refine ⟨k, y, rfl, hkl, hy, ?_⟩
  have hyx := (h.mem y).1 (List.mem_of_getElem? hy)
  have hp := (isPfx_iff _ _).1 (hk y hyx).1
  obtain ⟨m, hm'⟩ : ∃ m : Nat, y.l = m := ⟨y.l.toNat, by omega⟩
  have hya : y.a = cov a m := by have := (covers_iff (hk y hyx).1 h0).1 hc; rw [hm'] at this; simpa using this
  have hg := getE_of_memS hs hyx
  rw [hya, hm'] at hg
  rw [blN_top 9 (m := m) (by omega) (by rw [hg]; rfl) fun j hj hj2 => ?_]
  ·show some (⟨cov a m, m, orZ (getE xs (cov a m) m)⟩ : Ent) = some y
   rw [hg]
   obtain ⟨ya, yl, yn⟩ := y
   simp only at hya hm'
   rw [hya, hm']
   rfl
  ·rw [Bool.eq_false_iff]
   intro hgj
   obtain ⟨x, hx, _, e2, hcx⟩ := hin j (by omega) hgj
   obtain ⟨i, hi⟩ := List.mem_iff_getElem?.1 hx
   have := hm i x (List.getElem?_eq_some_iff.1 hi).1 hi hcx
   omega
abbrev rkI (x : Ent) : Int := 9 * x.a + x.l
def BehI (ls : List Ent) (r : Int) (i : Nat) (b : Int) : Prop :=
 (b = -1 /\ ∀ j x, j < i -> ls[j]? = some x -> ¬ r <= rkI x) ∨ ∃ (k : Nat) (y : Ent), b = k /\ k < i /\ ls[k]? = some y /\ r <= rkI y /\ ∀ j x, j < i -> ls[j]? = some x -> r <= rkI x -> rkI y <= rkI x
theorem Rep.behind {ls xs : List Ent} (h : Rep ls xs) (hs : Sorted xs) (hk : ∀ x ∈ xs, okE x) {r : Nat} {b : Int} (hb : BehI ls (r : Int) ls.length b) : (b = -1 /\ frR xs r = []) ∨ (∃ (k : Nat) (y : Ent) (zs : List Ent), b = k /\ k < ls.length /\ ls[k]? = some y /\ frR xs r = y :: zs) := by
 have hrk : ∀ x ∈ xs, ((rkE x : Nat) : Int) = rkI x := fun x hx => by have := (isPfx_iff _ _).1 (hk x hx).1; unfold rkE rkI; omega
 rcases hb with ⟨rfl, hn⟩ | ⟨k, y, rfl, hkl, hy, hr, hm⟩
 ·left
  refine ⟨rfl, List.filter_eq_nil_iff.2 fun x hx => ?_⟩
  obtain ⟨i, hi⟩ := List.mem_iff_getElem?.1 ((h.mem x).2 hx)
  have := hn i x (List.getElem?_eq_some_iff.1 hi).1 hi
  have := hrk x hx
  simp
  omega
 ·right
  have hyx := (h.mem y).1 (List.mem_of_getElem? hy)
  have hyr := hrk y hyx
  have hyf : y ∈ frR xs r := List.mem_filter.2 ⟨hyx, by simp; omega⟩
  cases hf : frR xs r with
  | nil => rw [hf] at hyf; cases hyf
  | cons z zs =>
   refine ⟨k, y, zs, rfl, hkl, hy, ?_⟩
   rw [hf] at hyf
   have hzf : z ∈ frR xs r := by rw [hf]; simp
   obtain ⟨hzx, hzr⟩ := List.mem_filter.1 hzf
   have hzr' := hrk z hzx
   obtain ⟨i, hi⟩ := List.mem_iff_getElem?.1 ((h.mem z).2 hzx)
   have h1 := hm i z (List.getElem?_eq_some_iff.1 hi).1 hi (by simp at hzr; omega)
   rcases List.mem_cons.1 hyf with e | e
   ·rw [e]
   ·have hpw := frR_pw hs hk r
    rw [hf] at hpw
    have := (List.pairwise_cons.1 hpw).1 y e
    omega
end Go.Proofs.YtglbamalagacgaaGreat

namespace Go.Proofs.YtglbamalagacgaaGreat
open Go.RowKit Go.Shelf
attribute [local go_sem] Oper.semAt_some
theorem wid_hf {i : Nat} (h : i < 8) : wid (i : Int) / 2 = wid ((i : Int) + 1) := by
 have e1 : i = 0 ∨ i = 1 ∨ i = 2 ∨ i = 3 ∨ i = 4 ∨ i = 5 ∨ i = 6 ∨ i = 7 := by omega
 rcases e1 with rfl | rfl | rfl | rfl | rfl | rfl | rfl | rfl <;> decide
set_option maxHeartbeats 400000 in
theorem width_r (n : Nat) (h8 : n <= 8) (w : World) :
  Calls Tryz.prog 130 #[.int .i64 (n : Int)] w fun e w' => e = .returned (.int .i64 (wid n)) /\ w' = w := by
 go_enter Tryz.func130, Tryz.ntmps130
 go_wp2
 go_loopw [3, 4] (fun s3 s4 wr => ∃ i : Nat, i <= n /\ s3 = .int .i64 (wid i) /\ s4 = .int .i64 (i : Int) /\ Hid (wr = w)) (fun _ s4 _ => n - (intOf s4).toNat)
 case atStart => exact ⟨0, by omega, rfl, rfl, hide rfl⟩
 case round =>
  obtain ⟨i, hi, rfl, rfl, HW⟩ := hrel
  by_cases hlt : i < n
  ·have j1 : (i : Int) < (n : Int) := by omega
   have hw1 : IntKind.i64.wrap ((i : Int) + 1) = (i : Int) + 1 := by rw [IntKind.wrap_i64]; omega
   have hb := wid_bd (i : Int)
   have h0 : (0 : Int) <= wid i := by omega
   have hw2 : IntKind.i64.wrap (wid i / 2) = wid i / 2 := by rw [IntKind.wrap_i64]; omega
   have HW3 := hide (wid_hf (i := i) (by omega))
   have next := hide (show ∃ i' : Nat, i' <= n /\ Value.int .i64 (wid i / 2) = .int .i64 (wid i') /\ Value.int .i64 ((i : Int) + 1) = .int .i64 (i' : Int) /\ Hid (wr = w) from ⟨i + 1, by omega, by rw [HW3.out]; simp, by simp, HW⟩)
   go_wp2
   exact ⟨next.out, by simp [intOf]; omega⟩
  ·obtain rfl : i = n := by omega
   go_wp2
   go_ret
   exact ⟨rfl, HW.out⟩
theorem width_ri (n : Int) (h0 : 0 <= n) (h8 : n <= 8) (w : World) : Calls Tryz.prog 130 #[.int .i64 n] w fun e w' => e = .returned (.int .i64 (wid n)) /\ w' = w := by
 have := width_r n.toNat (by omega) w
 rwa [show ((n.toNat : Nat) : Int) = n by omega] at this
set_option maxHeartbeats 400000 in
theorem rank_r (a l : Int) (h : isPfx a l = true) (w : World) :
  Calls Tryz.prog 119 #[.int .i64 a, .int .i64 l] w fun e w' => e = .returned (.int .i64 (9 * a + l)) /\ w' = w := by
 obtain ⟨h0, h1, h2, h3, _⟩ := (isPfx_iff a l).1 h
 have e1 : IntKind.i64.wrap (9 * a) = 9 * a := by rw [IntKind.wrap_i64]; omega
 have e2 : IntKind.i64.wrap (9 * a + l) = 9 * a + l := by rw [IntKind.wrap_i64]; omega
 clear h
 go_enter Tryz.func119, Tryz.ntmps119
 go_wp2
 go_ret
 exact ⟨rfl, rfl⟩
set_option maxHeartbeats 400000 in
theorem proper_r (a l : Int) (w : World) :
  Calls Tryz.prog 118 #[.int .i64 a, .int .i64 l] w fun e w' => e = .returned (.bool (isPfx a l)) /\ w' = w := by
 by_cases h1 : l < 0
 ·rw [isPfx_no (by omega)]
  have d1 : decide (l < 0) = true := decide_eq_true h1
  go_enter Tryz.func118, Tryz.ntmps118
  go_wp2
  go_ret
  exact ⟨rfl, rfl⟩
 have d1 : decide (l < 0) = false := decide_eq_false h1
 by_cases h2 : 8 < l
 ·rw [isPfx_no (by omega)]
  have d2 : decide (8 < l) = true := decide_eq_true h2
  go_enter Tryz.func118, Tryz.ntmps118
  go_wp2
  go_ret
  exact ⟨rfl, rfl⟩
 have d2 : decide (8 < l) = false := decide_eq_false h2
 by_cases h3 : a < 0
 ·rw [isPfx_no (by omega)]
  have d3 : decide (a < 0) = true := decide_eq_true h3
  go_enter Tryz.func118, Tryz.ntmps118
  go_wp2
  go_ret
  exact ⟨rfl, rfl⟩
 have d3 : decide (a < 0) = false := decide_eq_false h3
 by_cases h4 : 255 < a
 ·rw [isPfx_no (by omega)]
  have d4 : decide (255 < a) = true := decide_eq_true h4
  go_enter Tryz.func118, Tryz.ntmps118
  go_wp2
  go_ret
  exact ⟨rfl, rfl⟩
 have d4 : decide (255 < a) = false := decide_eq_false h4
 have hwd := hide (fun W => width_ri l (by omega) (by omega) W)
 have a0 : (0 : Int) <= a := by omega
 have v0 := (wid_bd l).1
 have vn : ¬ wid l = 0 := by omega
 have e1 : isPfx a l = decide (a % wid l = 0) := by
  unfold isPfx
  rw [decide_eq_true (by omega), decide_eq_true (by omega), decide_eq_true (by omega), decide_eq_true (by omega)]
  rfl
 rw [e1]
 have HE := hide (show (a % wid l == 0) = decide (a % wid l = 0) from by rw [Bool.eq_iff_iff]; simp)
 clear e1
 go_enter Tryz.func118, Tryz.ntmps118
 go_wp2_with fail
 refine (hwd.out _).mono ?_
 rintro _ w2 ⟨rfl, rfl⟩
 go_wp2
 go_ret
 exact ⟨by rw [<- HE.out]; rfl, rfl⟩
abbrev RowU (w : World) (v : Value) (ls : List Ent) : Prop := RowG 90 3 w v ls.length (rteC ls)
def iU (o : Option Nat) : Int := match o with
 | none => -1
 | some i => (i : Int)
set_option maxHeartbeats 1000000 in
theorem find_r (w : World) (v : Value) (ls : List Ent) (a l : Int) (hr : RowU w v ls) (hl : ls.length <= 1000000) :
  Calls Tryz.prog 105 #[v, .int .i64 a, .int .i64 l] w fun r w' => r = .returned (.int .i64 (iU (idxU ls a l))) /\ Below w.heap.size w w' := by
 obtain ⟨va, vc, rfl⟩ := hr.shape
 have HR := hide hr
 clear hr
 go_enter Tryz.func105, Tryz.ntmps105
 go_wp2
 go_loopw [7] (fun sl wr => ∃ j : Nat, j <= ls.length /\ sl = .int .i64 (j : Int) /\ Hid (∀ i y, i < j -> ls[i]? = some y -> ¬ keyE y a l) /\ Hid (Below w.heap.size w wr)) (fun s _ => ls.length - (intOf s).toNat)
 case atStart => exact ⟨0, by omega, rfl, fun i y h => by omega, Below.refl _ _⟩
 case round =>
  obtain ⟨j, hj, rfl, HN, HB⟩ := hrel
  by_cases hlt : j < ls.length
  ·obtain ⟨x, hx⟩ : ∃ x, ls[j]? = some x := ⟨_, List.getElem?_eq_getElem hlt⟩
   obtain ⟨g1, e1, a0, a1, a2, a3⟩ := rowG_rte HR.out hx
   subst e1
   have l0 : (0 : Int) <= (j : Int) := by omega
   have l1 : (j : Int) < (ls.length : Int) := by omega
   have f0 := (HB.out.cell (p := ⟨g1, j * 3, none⟩) a0).trans a1
   have f1 := (HB.out.cell (p := ⟨g1, j * 3 + 1, none⟩) a0).trans a2
   have hw4 : IntKind.i64.wrap ((j : Int) + 1) = (j : Int) + 1 := by rw [IntKind.wrap_i64]; omega
   have z1 : g1 < wr.heap.size := by have := HB.out.size; omega
   have Hx := hide hx
   clear a1 a2 a3 hx
   by_cases hk : keyE x a l
   ·have fin := hide (show iU (idxU ls a l) = (j : Int) by rw [idxU_first Hx.out hk HN.out]; rfl)
    obtain ⟨e1, e2⟩ := hk
    rw [e1] at f0
    rw [e2] at f1
    go_wp2
    go_ret
    exact ⟨by rw [fin.out]; rfl, HB.out⟩
   ·have next := hide (show ∃ j' : Nat, j' <= ls.length /\ Value.int .i64 ((j : Int) + 1) = .int .i64 (j' : Int) /\ Hid (∀ i y, i < j' -> ls[i]? = some y -> ¬ keyE y a l) /\ Hid (Below w.heap.size w wr) from ⟨j + 1, by omega, by simp, hide (fun i y hi hy => by
     rcases Nat.lt_or_ge i j with h1 | h1
     ·exact HN.out i y h1 hy
     ·obtain rfl : i = j := by omega
      rw [Hx.out] at hy
      cases hy
      exact hk), HB⟩)
    by_cases h1 : x.a = a
    ·have h2 : (x.l == l) = false := by simp; exact fun e => hk ⟨h1, e⟩
     rw [h1] at f0
     clear hk
     go_wp2
     exact ⟨next.out, by simp [intOf]; omega⟩
    ·have h2 : (x.a == a) = false := by simpa using h1
     clear hk h1
     go_wp2
     exact ⟨next.out, by simp [intOf]; omega⟩
  ·obtain rfl : j = ls.length := by omega
   have fin := hide (show iU (idxU ls a l) = -1 by rw [idxU_not fun i y hy => HN.out i y (List.getElem?_eq_some_iff.1 hy).1 hy]; rfl)
   go_wp2
   go_ret
   exact ⟨by rw [fin.out]; rfl, HB.out⟩
end Go.Proofs.YtglbamalagacgaaGreat

namespace Go.Proofs.YtglbamalagacgaaGreat
open Go.RowKit Go.Shelf
attribute [local go_sem] Oper.semAt_some
def NewRow (w : World) (ys : List Ent) (r : Ending) (w' : World) : Prop := ∃ v, r = .returned v /\ RowU w' v ys /\ Below w.heap.size w w' /\ ∀ g, v.ownBlock = some g -> w.heap.size <= g
theorem rteC_snoc (ys : List Ent) (x : Ent) : rteC ys ++ [.int .i64 x.a, .int .i64 x.l, .int .i64 x.n] = rteC (ys ++ [x]) := by simp [rteC, rcell]
theorem goneU_take {ls : List Ent} {j : Nat} {x : Ent} (hx : ls[j]? = some x) (a l : Int) : goneU (ls.take (j + 1)) a l = if keyE x a l then goneU (ls.take j) a l else goneU (ls.take j) a l ++ [x] := by
 obtain ⟨h1, h2⟩ := List.getElem?_eq_some_iff.1 hx
 unfold goneU
 rw [List.take_succ_eq_append_getElem h1, List.filter_append, h2]
 by_cases hk : keyE x a l
 ·simp [hk]
 ·simp [hk]
theorem grown_below {B : Nat} {w A W : World} {v : Value} (hB : Below B w A) (hg : A.grownBy W v.ownBlock) (hf : ∀ g, v.ownBlock = some g -> B <= g) (hA : B <= A.heap.size) : Below B w W := by
 obtain ⟨h1, h2, h3, h4, h5⟩ := hg
 exact ⟨h1.trans hB.os, h2.trans hB.tape, h3.trans hB.output, Nat.le_trans hB.size h4, fun k hk => (h5 k (by omega) (fun h => by have := hf k h.symm; omega)).trans (hB.block k hk)⟩
set_option maxRecDepth 4000 in
set_option maxHeartbeats 2000000 in
theorem gone_r (w : World) (v : Value) (ls : List Ent) (a l : Int) (hr : RowU w v ls) (hl : ls.length <= 100000) :
  Calls Tryz.prog 106 #[v, .int .i64 a, .int .i64 l] w (NewRow w (goneU ls a l)) := by
 obtain ⟨va, vc, rfl⟩ := hr.shape
 have HR := hide hr
 clear hr
 go_enter Tryz.func106, Tryz.ntmps106
 go_wp2
 go_loopw [7, 8] (fun s7 s8 wr => ∃ (j : Nat) (ua : Option Addr) (uc : Nat), j <= ls.length /\ s7 = .slice ua (goneU (ls.take j) a l).length uc /\ s8 = .int .i64 (j : Int) /\ Hid (RowU wr (.slice ua (goneU (ls.take j) a l).length uc) (goneU (ls.take j) a l)) /\ Hid (∀ g, (Value.slice ua (goneU (ls.take j) a l).length uc).ownBlock = some g -> w.heap.size <= g) /\ Hid (Below w.heap.size w wr)) (fun _ s8 _ => ls.length - (intOf s8).toNat)
 case atStart => exact ⟨0, none, 0, by omega, rfl, rfl, hide (RowG.nil _ _ _), hide (fun g h => by cases h), hide (Below.refl _ _)⟩
 case round =>
  obtain ⟨j, ua, uc, hj, rfl, rfl, HU, HF, HB⟩ := hrel
  by_cases hlt : j < ls.length
  ·obtain ⟨x, hx⟩ : ∃ x, ls[j]? = some x := ⟨_, List.getElem?_eq_getElem hlt⟩
   obtain ⟨g1, e1, a0, a1, a2, a3⟩ := rowG_rte HR.out hx
   subst e1
   have l0 : (0 : Int) <= (j : Int) := by omega
   have l1 : (j : Int) < (ls.length : Int) := by omega
   have f0 := (HB.out.cell (p := ⟨g1, j * 3, none⟩) a0).trans a1
   have f1 := (HB.out.cell (p := ⟨g1, j * 3 + 1, none⟩) a0).trans a2
   have f2 := (HB.out.cell (p := ⟨g1, j * 3 + 2, none⟩) a0).trans a3
   have hw4 : IntKind.i64.wrap ((j : Int) + 1) = (j : Int) + 1 := by rw [IntKind.wrap_i64]; omega
   have z1 : g1 < wr.heap.size := by have := HB.out.size; omega
   have hgt := goneU_take hx a l
   clear a1 a2 a3 hx
   by_cases hk : keyE x a l
   ·rw [if_pos hk] at hgt
    have next := hide (show ∃ (j' : Nat) (va' : Option Addr) (vc' : Nat), j' <= ls.length /\ Value.slice ua (goneU (ls.take j) a l).length uc = .slice va' (goneU (ls.take j') a l).length vc' /\ Value.int .i64 ((j : Int) + 1) = .int .i64 (j' : Int) /\ Hid (RowU wr (.slice va' (goneU (ls.take j') a l).length vc') (goneU (ls.take j') a l)) /\ Hid (∀ g, (Value.slice va' (goneU (ls.take j') a l).length vc').ownBlock = some g -> w.heap.size <= g) /\ Hid (Below w.heap.size w wr) from ⟨j + 1, ua, uc, by omega, by rw [hgt], by simp, by rw [hgt]; exact HU, by rw [hgt]; exact HF, HB⟩)
    obtain ⟨e1, e2⟩ := hk
    rw [e1] at f0
    rw [e2] at f1
    clear hgt
    go_wp2
    exact ⟨next.out, by simp [intOf]; omega⟩
   ·rw [if_neg hk] at hgt
    have hlen : (goneU (ls.take j) a l).length <= 1000000 := by
     have h1 := List.length_filter_le (fun x => !decide (keyE x a l)) (ls.take j)
     have h2 : (ls.take j).length <= ls.length := by rw [List.length_take]; omega
     unfold goneU
     omega
    obtain ⟨g, cap, W, hrun, hrow, hgr, hfr⟩ := append_rte (w := wr) 61 (.slice ua (goneU (ls.take j) a l).length uc) (goneU (ls.take j) a l).length (rteC (goneU (ls.take j) a l)) x.a x.l x.n HU.out hlen
    have hbA : Below w.heap.size w (wr.alloc (.cells #[.int .i64 x.a, .int .i64 x.l, .int .i64 x.n] 90)) := HB.out.alloc HB.out.size _
    have hl1 : (goneU (ls.take (j + 1)) a l).length = (goneU (ls.take j) a l).length + 1 := by rw [hgt]; simp
    have next := hide (show ∃ (j' : Nat) (va' : Option Addr) (vc' : Nat), j' <= ls.length /\ Value.slice (some ⟨g, 0, none⟩) ((goneU (ls.take j) a l).length + 1) cap = .slice va' (goneU (ls.take j') a l).length vc' /\ Value.int .i64 ((j : Int) + 1) = .int .i64 (j' : Int) /\ Hid (RowU W (.slice va' (goneU (ls.take j') a l).length vc') (goneU (ls.take j') a l)) /\ Hid (∀ g, (Value.slice va' (goneU (ls.take j') a l).length vc').ownBlock = some g -> w.heap.size <= g) /\ Hid (Below w.heap.size w W) from ⟨j + 1, some ⟨g, 0, none⟩, cap, by omega, by rw [hl1], by simp, by
     rw [hl1, hgt]
     unfold RowU
     rw [List.length_append, List.length_singleton, <- rteC_snoc]
     exact hrow, hide (fun g' hg' => by
      rw [hl1] at hg'
      have hgg : g = g' := by simpa [Value.ownBlock] using hg'
      rcases hfr with h | h
      ·exact HF.out g' (by rw [<- hgg]; exact h.symm)
      ·have := HB.out.size; omega), hide (grown_below hbA hgr HF.out (Nat.le_trans HB.out.size (by simp)))⟩)
    clear hrow hgr hfr hbA hgt HU HF hl1
    generalize (goneU (ls.take j) a l).length = m at *
    have HRUN := hide hrun
    clear hrun
    by_cases h1 : x.a = a
    ·have h2 : (x.l != l) = true := by simp; exact fun e => hk ⟨h1, e⟩
     clear hk
     rw [h1] at f0 HRUN
     go_wp2_with (at_builtin; refine wpList_appendB rfl _ _ 61 61 rfl _ _ rfl rfl _ _ HRUN.out ?_)
     exact ⟨next.out, by simp [intOf]; omega⟩
    ·have h2 : (x.a != a) = true := by simpa using h1
     clear hk h1
     go_wp2_with (at_builtin; refine wpList_appendB rfl _ _ 61 61 rfl _ _ rfl rfl _ _ HRUN.out ?_)
     exact ⟨next.out, by simp [intOf]; omega⟩
  ·obtain rfl : j = ls.length := by omega
   have hrow := HU.out
   rw [List.take_length] at hrow
   have hf2 := HF.out
   rw [List.take_length] at hf2
   have fin := hide (show NewRow w (goneU ls a l) (.returned (.slice ua (goneU ls a l).length uc)) wr from ⟨_, rfl, hrow, HB.out, hf2⟩)
   rw [List.take_length]
   clear hrow hf2 HU HF
   go_wp2
   go_ret
   exact fin.out
end Go.Proofs.YtglbamalagacgaaGreat

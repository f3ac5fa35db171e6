import Derived.Test.YtglbamalagacgaaGreatA2
import Derived.Test.YtglbamalagacgaaGreatA3
namespace Go.Proofs.YtglbamalagacgaaGreat
open Go.RowKit
set_option maxHeartbeats 400000 in
theorem bsearch_nil (b m : Int) (bx : Nat) (w : World) :
  Calls Tryz.prog 154 #[.slice none 0 0, pfxV b m, .func (.func 155) #[] #[ptrV bx]] w fun r w' =>
   Below w.heap.size w w' /\ r = .returned (.tuple #[.int .i64 0, .bool false]) := by
 go_enter Tryz.func154, Tryz.ntmps154
 go_wp2
 refine wp_loop_rounds 1 ?_
 rw [rounds_succ]
 go_wp2
 go_quiet (fail)
 go_wp2
 go_ret2
 exact ⟨(by repeat (first | exact Below.refl _ _ | refine below_drewN ?_ _ | refine Below.drew ?_ | refine Below.trans ?_ (Below.mono (by assumption) ?_) | refine Below.alloc ?_ ?_ _ | refine Below.setCell ?_ ?_ _ | omega | (simp; omega) | simp)), rfl⟩
abbrev klt (a l b m : Int) : Prop := a < b ∨ (a = b /\ l < m)
theorem cmpP_neg (a l b m : Int) : cmpP a l b m < 0 ↔ klt a l b m := by
 unfold cmpP orI cmpI klt
 (repeat' split) <;> omega
theorem cmpP_zero (a l b m : Int) : cmpP a l b m = 0 ↔ a = b /\ l = m := by
 unfold cmpP orI cmpI
 (repeat' split) <;> omega
def Ent.lt (x y : Ent) : Prop := klt x.a x.l y.a y.l
def Sorted (xs : List Ent) : Prop := xs.Pairwise Ent.lt
theorem klt_trans {a l b m c n : Int} (h : klt a l b m) (k : klt b m c n) : klt a l c n := by unfold klt at *; omega
def Place (xs : List Ent) (b m : Int) (i : Nat) : Prop := i <= xs.length /\ (∀ x ∈ xs.take i, klt x.a x.l b m) /\ (∀ x ∈ xs.drop i, ¬ klt x.a x.l b m)
def FoundAt (xs : List Ent) (b m : Int) (i : Nat) : Bool := match xs[i]? with
 | some x => x.a == b && x.l == m
 | none => false
theorem getD_mem {xs : List Ent} {k : Nat} (h : k < xs.length) : xs[k]?.getD Ent.z = xs[k] := by simp [h]
theorem bsearch_row (xs : List Ent) (v : Value) (bx st : Nat) (b m : Int) (w : World) (hs : Sorted xs) (hn : xs.length <= 1000000) (hrow : RowAt w v xs)
  (hbx : w.cell? ⟨bx, 0, none⟩ = some (ptrV st)) (hst : w.cell? ⟨st, 0, none⟩ = some cmpV) :
  Calls Tryz.prog 154 #[v, pfxV b m, .func (.func 155) #[] #[ptrV bx]] w fun r w' =>
   Below w.heap.size w w' /\ ∃ i : Nat, Place xs b m i /\ r = .returned (.tuple #[.int .i64 i, .bool (FoundAt xs b m i)]) := by
 rcases hrow with ⟨rfl, rfl⟩ | ⟨g, cap, sp, rfl, hg, hl, hnc, hcm⟩
 ·refine (bsearch_nil b m bx w).mono ?_
  rintro r w' ⟨hB, rfl⟩
  exact ⟨hB, 0, ⟨Nat.le_refl _, by simp, by simp⟩, rfl⟩
 ·have hx : EntsAt w g xs := RowAt.ents (cap := cap) (.inr ⟨g, cap, sp, rfl, hg, hl, hnc, hcm⟩)
  have hp := List.pairwise_iff_getElem.1 hs
  refine (bsearch_any xs g cap bx st b m w hn hx hbx hst ?_).mono ?_
  ·intro i j hij hj h
   rw [cmpP_neg] at h ⊢
   rcases Nat.lt_or_eq_of_le hij with h1 | rfl
   ·rw [getD_mem hj] at h
    rw [getD_mem (by omega)]
    exact klt_trans (hp i j (by omega) hj h1) h
   ·exact h
  ·rintro r w' ⟨hB, i, hi, hlo, hhi, rfl⟩
   refine ⟨hB, i, ⟨hi, fun x hx => ?_, fun x hx => ?_⟩, ?_⟩
   ·obtain ⟨k, hk, rfl⟩ := List.mem_iff_getElem.1 hx
    rw [List.length_take] at hk
    have := hlo k (by omega)
    rw [getD_mem (by omega), cmpP_neg] at this
    simpa using this
   ·obtain ⟨k, hk, rfl⟩ := List.mem_iff_getElem.1 hx
    rw [List.length_drop] at hk
    have := hhi (i + k) (by omega) (by omega)
    rw [getD_mem (by omega)] at this
    intro h
    rw [<- cmpP_neg] at h
    simp at h
    omega
   ·have e : (decide (i < xs.length) && (cmpP (xs[i]?.getD Ent.z).a (xs[i]?.getD Ent.z).l b m == 0)) = FoundAt xs b m i := by
     unfold FoundAt
     by_cases hil : i < xs.length
     ·rw [getD_mem hil, List.getElem?_eq_getElem hil]
      simp only [hil, decide_true, Bool.true_and]
      rw [Bool.eq_iff_iff]
      simp [cmpP_zero]
     ·rw [List.getElem?_eq_none (by omega)]
      simp [hil]
    rw [e]
def StoreAt (w : World) (st : Nat) (v : Value) (xs : List Ent) : Prop :=
 w.heap[st]? = some (.cells #[cmpV, v] 183 (0, 0)) /\ RowAt w v xs /\ v.ownBlock ≠ some st /\ Sorted xs /\ xs.length <= 1000000
theorem StoreAt.c0 {w : World} {st : Nat} {v : Value} {xs : List Ent} (h : StoreAt w st v xs) : w.cell? ⟨st, 0, none⟩ = some cmpV := by simp [World.cell?, h.1]
theorem StoreAt.c1 {w : World} {st : Nat} {v : Value} {xs : List Ent} (h : StoreAt w st v xs) : w.cell? ⟨st, 1, none⟩ = some v := by simp [World.cell?, h.1]
theorem StoreAt.fz {w : World} {st : Nat} {v : Value} {xs : List Ent} (h : StoreAt w st v xs) (o : Nat) : w.frozen? ⟨st, o, none⟩ = false := by simp [World.frozen?, h.1]
theorem StoreAt.lt {w : World} {st : Nat} {v : Value} {xs : List Ent} (h : StoreAt w st v xs) : st < w.heap.size := (Array.getElem?_eq_some_iff.1 h.1).1
theorem RowAt.lt {w : World} {v : Value} {xs : List Ent} (h : RowAt w v xs) : ∀ g, v.ownBlock = some g -> g < w.heap.size := by
 intro g hg
 rcases h with ⟨rfl, _⟩ | ⟨g', cap, sp, rfl, hg', _⟩
 ·cases hg
 ·cases hg; exact (Array.getElem?_eq_some_iff.1 hg').1
theorem StoreAt.later {w w' : World} {st : Nat} {v : Value} {xs : List Ent} (h : StoreAt w st v xs) (hB : Below w.heap.size w w') : StoreAt w' st v xs :=
 ⟨(hB.block st h.lt).trans h.1, h.2.1.kept fun g hg => hB.block g (h.2.1.lt g hg), h.2.2⟩
set_option maxHeartbeats 400000 in
theorem find_any (st : Nat) (v : Value) (xs : List Ent) (b m : Int) (w : World) (hS : StoreAt w st v xs) :
  Calls Tryz.prog 149 #[ptrV st, pfxV b m] w fun r w' =>
   Below w.heap.size w w' /\ ∃ i : Nat, Place xs b m i /\ r = .returned (.tuple #[.int .i64 i, .bool (FoundAt xs b m i)]) := by
 have c0 := hS.c0
 have c1 := hS.c1
 have hlt := hS.lt
 have h1 : st < w.heap.size + 1 + 1 := by omega
 have h2 : w.heap.size < w.heap.size + 1 + 1 := by omega
 go_enter Tryz.func149, Tryz.ntmps149
 go_wp2
 go_region_held3 (fun w' => w'.cell? ⟨st, 1, none⟩ = some v /\ w'.cell? ⟨w.heap.size, 0, none⟩ = some (ptrV st) /\ w'.cell? ⟨w.heap.size + 1, 0, none⟩ = some (.int .i64 b) /\ w'.cell? ⟨w.heap.size + 1, 1, none⟩ = some (.int .i64 m)) (go_keep)
  (first
   | (go_at_call 154; refine (bsearch_row xs v w.heap.size st b m _ hS.2.2.2.1 hS.2.2.2.2 ?hr ?hb ?hs).mono ?_; (case hr => exact hS.2.1.kept fun g hg => by have := hS.2.1.lt g hg; exact (((Below.refl _ w).alloc (Nat.le_refl _) _).alloc (by simp) _).drew.block g this); (case hb => simp [go_sem]); (case hs => simp [go_sem, *]); rintro _ w' ⟨hb, i, hp, rfl⟩; have hc := (bcell hb).1))
 go_wp2
 go_ret2
 exact ⟨(by repeat (first | exact Below.refl _ _ | refine below_drewN ?_ _ | refine Below.drew ?_ | refine Below.trans ?_ (Below.mono (by assumption) ?_) | refine Below.alloc ?_ ?_ _ | refine Below.setCell ?_ ?_ _ | omega | (simp; omega) | simp)), i, hp, rfl⟩
def getE : List Ent -> Int -> Int -> Option Int
 | [], _, _ => none
 | x :: xs, a, l => if x.a = a /\ x.l = l then some x.n else getE xs a l
def putE : List Ent -> Int -> Int -> Int -> List Ent
 | [], a, l, n => [⟨a, l, n⟩]
 | x :: xs, a, l, n => if klt x.a x.l a l then x :: putE xs a l n else if x.a = a /\ x.l = l then ⟨a, l, n⟩ :: xs else ⟨a, l, n⟩ :: x :: xs
def delE : List Ent -> Int -> Int -> List Ent
 | [], _, _ => []
 | x :: xs, a, l => if x.a = a /\ x.l = l then xs else x :: delE xs a l
theorem Place.cons {x : Ent} {xs : List Ent} {b m : Int} {i : Nat} (h : Place (x :: xs) b m (i + 1)) : klt x.a x.l b m /\ Place xs b m i := by
 obtain ⟨h1, h2, h3⟩ := h
 exact ⟨h2 x (by simp), by simpa using h1, fun y hy => h2 y (by simp [hy]), fun y hy => h3 y (by simpa using hy)⟩
theorem sorted_tail {x : Ent} {xs : List Ent} (h : Sorted (x :: xs)) : Sorted xs /\ ∀ y ∈ xs, klt x.a x.l y.a y.l := by
 have := List.pairwise_cons.1 h
 exact ⟨this.2, this.1⟩
theorem getE_none {xs : List Ent} {a l : Int} (h : ∀ y ∈ xs, ¬ (y.a = a /\ y.l = l)) : getE xs a l = none := by
 induction xs with
 | nil => rfl
 | cons x xs ih => rw [getE, if_neg (h x (by simp)), ih fun y hy => h y (by simp [hy])]
theorem place_get {xs : List Ent} {b m : Int} (hs : Sorted xs) : ∀ {i : Nat}, Place xs b m i -> getE xs b m = if FoundAt xs b m i then some (xs[i]?.getD Ent.z).n else none := by
 induction xs with
 | nil => intro i _; simp [getE, FoundAt]
 | cons x xs ih =>
  obtain ⟨hs1, hs2⟩ := sorted_tail hs
  intro i h
  cases i with
  | zero =>
   have h3 := h.2.2
   by_cases hx : x.a = b /\ x.l = m
   ·simp [getE, FoundAt, hx]
   ·have : getE xs b m = none := getE_none fun y hy he => by
     have := hs2 y hy
     have := h3 x (by simp)
     unfold klt at *
     omega
    simp [getE, FoundAt, hx, this]
  | succ i =>
   obtain ⟨hk, hp⟩ := h.cons
   have hx : ¬ (x.a = b /\ x.l = m) := by unfold klt at hk; omega
   have e : FoundAt (x :: xs) b m (i + 1) = FoundAt xs b m i := rfl
   rw [getE, if_neg hx, ih hs1 hp, e]
   rfl
theorem place_put {xs : List Ent} {b m n : Int} (hs : Sorted xs) : ∀ {i : Nat}, Place xs b m i -> putE xs b m n = xs.take i ++ ⟨b, m, n⟩ :: xs.drop (if FoundAt xs b m i then i + 1 else i) := by
 induction xs with
 | nil => intro i _; simp [putE, FoundAt]
 | cons x xs ih =>
  obtain ⟨hs1, hs2⟩ := sorted_tail hs
  intro i h
  cases i with
  | zero =>
   have h3 := h.2.2 x (by simp)
   by_cases hx : x.a = b /\ x.l = m
   ·rw [putE, if_neg h3, if_pos hx]; simp [FoundAt, hx]
   ·rw [putE, if_neg h3, if_neg hx]; simp [FoundAt, hx]
  | succ i =>
   obtain ⟨hk, hp⟩ := h.cons
   have e : FoundAt (x :: xs) b m (i + 1) = FoundAt xs b m i := rfl
   rw [putE, if_pos hk, ih hs1 hp, e]
   split <;> rfl
theorem place_del {xs : List Ent} {b m : Int} (hs : Sorted xs) : ∀ {i : Nat}, Place xs b m i -> FoundAt xs b m i = true -> delE xs b m = xs.take i ++ xs.drop (i + 1) := by
 induction xs with
 | nil => intro i _ h; simp [FoundAt] at h
 | cons x xs ih =>
  obtain ⟨hs1, hs2⟩ := sorted_tail hs
  intro i h hf
  cases i with
  | zero => simp [FoundAt] at hf; simp [delE, hf]
  | succ i =>
   obtain ⟨hk, hp⟩ := h.cons
   have hx : ¬ (x.a = b /\ x.l = m) := by unfold klt at hk; omega
   rw [delE, if_neg hx, ih hs1 hp hf]
   rfl
theorem putE_mem {xs : List Ent} {a l n : Int} {y : Ent} (h : y ∈ putE xs a l n) : y = ⟨a, l, n⟩ ∨ y ∈ xs := by
 induction xs with
 | nil => simp [putE] at h; exact .inl h
 | cons x xs ih =>
  rw [putE] at h
  split at h
  ·rcases List.mem_cons.1 h with rfl | h
   ·simp
   ·rcases ih h with h | h <;> simp [h]
  ·split at h
   ·rcases List.mem_cons.1 h with rfl | h <;> simp [*]
   ·rcases List.mem_cons.1 h with rfl | h
    ·simp
    ·exact .inr h
theorem delE_mem {xs : List Ent} {a l : Int} {y : Ent} (h : y ∈ delE xs a l) : y ∈ xs := by
 induction xs with
 | nil => simp [delE] at h
 | cons x xs ih =>
  rw [delE] at h
  split at h
  ·simp [h]
  ·rcases List.mem_cons.1 h with rfl | h
   ·simp
   ·simp [ih h]
theorem putE_sorted {xs : List Ent} {a l n : Int} (hs : Sorted xs) : Sorted (putE xs a l n) := by
 induction xs with
 | nil => simp [putE, Sorted]
 | cons x xs ih =>
  obtain ⟨hs1, hs2⟩ := sorted_tail hs
  rw [putE]
  split
  ·rename_i h
   refine List.pairwise_cons.2 ⟨fun y hy => ?_, ih hs1⟩
   rcases putE_mem hy with rfl | hy
   ·exact h
   ·exact hs2 y hy
  ·rename_i h
   split
   ·rename_i he
    refine List.pairwise_cons.2 ⟨fun y hy => ?_, hs1⟩
    have := hs2 y hy
    show klt a l y.a y.l
    rw [<- he.1, <- he.2]; exact this
   ·rename_i he
    refine List.pairwise_cons.2 ⟨fun y hy => ?_, hs⟩
    have hx : klt a l x.a x.l := by unfold klt at *; omega
    rcases List.mem_cons.1 hy with rfl | hy
    ·exact hx
    ·exact klt_trans hx (hs2 y hy)
theorem delE_sorted {xs : List Ent} {a l : Int} (hs : Sorted xs) : Sorted (delE xs a l) := by
 induction xs with
 | nil => exact hs
 | cons x xs ih =>
  obtain ⟨hs1, hs2⟩ := sorted_tail hs
  rw [delE]
  split
  ·exact hs1
  ·exact List.pairwise_cons.2 ⟨fun y hy => hs2 y (delE_mem hy), ih hs1⟩
theorem getE_put {xs : List Ent} {a l n : Int} (hs : Sorted xs) (b m : Int) : getE (putE xs a l n) b m = if a = b /\ l = m then some n else getE xs b m := by
 induction xs with
 | nil => simp [putE, getE]
 | cons x xs ih =>
  obtain ⟨hs1, hs2⟩ := sorted_tail hs
  rw [putE]
  split
  ·rename_i h
   rw [getE, getE, ih hs1]
   unfold klt at h
   by_cases h1 : x.a = b /\ x.l = m
   ·rw [if_pos h1, if_pos h1, if_neg (by omega)]
   ·rw [if_neg h1, if_neg h1]
  ·split
   ·rename_i h he
    rw [getE, getE]
    by_cases h1 : a = b /\ l = m
    ·simp only [h1, and_self, if_true]
    ·simp only [h1, if_false]
     rw [if_neg (by omega)]
   ·rw [getE]
theorem getE_del {xs : List Ent} {a l : Int} (hs : Sorted xs) (b m : Int) : getE (delE xs a l) b m = if a = b /\ l = m then none else getE xs b m := by
 induction xs with
 | nil => simp [delE, getE]
 | cons x xs ih =>
  obtain ⟨hs1, hs2⟩ := sorted_tail hs
  rw [delE]
  split
  ·rename_i he
   by_cases h1 : a = b /\ l = m
   ·rw [if_pos h1]
    exact getE_none fun y hy h => by have := hs2 y hy; unfold klt at this; omega
   ·rw [if_neg h1, getE, if_neg (by omega)]
  ·rename_i he
   rw [getE, getE, ih hs1]
   by_cases h1 : x.a = b /\ x.l = m
   ·rw [if_pos h1, if_pos h1, if_neg (by omega)]
   ·rw [if_neg h1, if_neg h1]
end Go.Proofs.YtglbamalagacgaaGreat

namespace Go.Proofs.YtglbamalagacgaaGreat
open Go.RowKit
structure Only (F : List Nat) (w w' : World) : Prop where
 os : w'.os = w.os
 tape : w'.tape = w.tape
 output : w'.output = w.output
 size : w.heap.size <= w'.heap.size
 block : ∀ k, k < w.heap.size -> k ∉ F -> w'.heap[k]? = w.heap[k]?
theorem Only.of_below {w w' : World} (F : List Nat) (h : Below w.heap.size w w') : Only F w w' := ⟨h.os, h.tape, h.output, h.size, fun k hk _ => h.block k hk⟩
theorem Only.refl (F : List Nat) (w : World) : Only F w w := ⟨rfl, rfl, rfl, Nat.le_refl _, fun _ _ _ => rfl⟩
theorem Only.trans {F G : List Nat} {a b c : World} (h : Only F a b) (k : Only G b c) (hG : ∀ x ∈ G, x ∈ F ∨ a.heap.size <= x) : Only F a c :=
 ⟨k.os.trans h.os, k.tape.trans h.tape, k.output.trans h.output, Nat.le_trans h.size k.size, fun x hx hn => (k.block x (by have := h.size; omega) (fun hg => by rcases hG x hg with h1 | h1; exact hn h1; omega)).trans (h.block x hx hn)⟩
theorem Only.mono {F G : List Nat} {a b : World} (h : Only F a b) (hG : ∀ x ∈ F, x < a.heap.size -> x ∈ G) : Only G a b :=
 ⟨h.os, h.tape, h.output, h.size, fun x hx hn => h.block x hx (fun hf => hn (hG x hf hx))⟩
theorem Only.cell {F : List Nat} {w w' : World} (h : Only F w w') {b o : Nat} (hb : b < w.heap.size) (hn : b ∉ F) : w'.cell? ⟨b, o, none⟩ = w.cell? ⟨b, o, none⟩ := World.cell?_of_block (w := w) (a := ⟨b, o, none⟩) (h.block b hb hn)
theorem Only.frozen {F : List Nat} {w w' : World} (h : Only F w w') {b o : Nat} (hb : b < w.heap.size) (hn : b ∉ F) : w'.frozen? ⟨b, o, none⟩ = w.frozen? ⟨b, o, none⟩ := World.frozen?_of_block (w := w) (a := ⟨b, o, none⟩) (h.block b hb hn)
theorem grownBy_only {w w' : World} {row : Option Nat} (h : w.grownBy w' row) : Only row.toList w w' :=
 ⟨h.os, h.tape, h.output, h.size, fun k hk hn => h.block k hk (fun e => hn (by rw [<- e]; simp))⟩
def isS (o : Option Int) : Bool := match o with
 | some _ => true
 | none => false
def orZ (o : Option Int) : Int := match o with
 | some n => n
 | none => 0
set_option maxHeartbeats 400000 in
theorem stoGet_any (st : Nat) (v : Value) (xs : List Ent) (b m : Int) (w : World) (hS : StoreAt w st v xs) :
  Calls Tryz.prog 144 #[ptrV st, pfxV b m] w fun r w' => Below w.heap.size w w' /\ r = .returned (.tuple #[.int .i64 (orZ (getE xs b m)), .bool (isS (getE xs b m))]) := by
 have hB1 : Below w.heap.size w (w.alloc (Obj.cells #[.int .i64 b, .int .i64 m] 65)) := (Below.refl _ w).alloc (Nat.le_refl _) _
 go_enter Tryz.func144, Tryz.ntmps144
 go_wp2_with fail
 refine (find_any st v xs b m _ (hS.later hB1)).mono ?_
 rintro r w1 ⟨hB, i, hp, rfl⟩
 have hg := place_get hS.2.2.2.1 hp
 have hB2 := hB1.trans (hB.mono (by simp))
 have hS1 := hS.later hB2
 have c1 := hS1.c1
 cases hf : FoundAt xs b m i with
 | false =>
  rw [hf] at hg
  simp only [Bool.false_eq_true, if_false] at hg
  have HG := hide hg
  clear hg hf hp c1 hS1
  go_wp2
  go_ret2
  exact ⟨hB2, by rw [HG.out]; rfl⟩
 | true =>
  rw [hf] at hg
  simp only [if_true] at hg
  have HG := hide hg
  have hil : i < xs.length := by
   unfold FoundAt at hf
   rcases Nat.lt_or_ge i xs.length with h | h
   ·exact h
   ·rw [List.getElem?_eq_none h] at hf; cases hf
  rcases hS1.2.1 with ⟨rfl, rfl⟩ | ⟨g, cap, sp, rfl, hgg, hl, hnc, hcm⟩
  ·simp at hil
  ·have hx : EntsAt w1 g xs := RowAt.ents (cap := cap) (.inr ⟨g, cap, sp, rfl, hgg, hl, hnc, hcm⟩)
   obtain ⟨x0, x1, x2⟩ := hx i hil
   have i0 : (0 : Int) <= (i : Int) := by omega
   have i1 : (i : Int) < (xs.length : Int) := by omega
   clear hg hf hp hS1 hx hgg hl hS hB
   generalize xs[i]?.getD Ent.z = y at *
   go_wp2
   go_ret2
   exact ⟨hB2, by rw [HG.out]; rfl⟩
set_option maxHeartbeats 400000 in
theorem stoLen_any (st : Nat) (v : Value) (xs : List Ent) (w : World) (hS : StoreAt w st v xs) :
  Calls Tryz.prog 177 #[ptrV st] w fun r w' => w' = w /\ r = .returned (.int .i64 xs.length) := by
 have c1 := hS.c1
 rcases hS.2.1 with ⟨rfl, rfl⟩ | ⟨g, cap, sp, rfl, hgg, hl, hnc, hcm⟩
 ·clear hS
  go_enter Tryz.func177, Tryz.ntmps177
  go_wp2
  go_ret
  exact ⟨rfl, rfl⟩
 ·clear hS hgg hl
  go_enter Tryz.func177, Tryz.ntmps177
  go_wp2
  go_ret
  exact ⟨rfl, rfl⟩
theorem found_lt {xs : List Ent} {b m : Int} {i : Nat} (hf : FoundAt xs b m i = true) : i < xs.length := by
 unfold FoundAt at hf
 rcases Nat.lt_or_ge i xs.length with h | h
 ·exact h
 ·rw [List.getElem?_eq_none h] at hf; cases hf
theorem found_key {xs : List Ent} {b m : Int} {i : Nat} (hf : FoundAt xs b m i = true) : (xs[i]?.getD Ent.z).a = b /\ (xs[i]?.getD Ent.z).l = m := by
 have h := found_lt hf
 unfold FoundAt at hf
 rw [List.getElem?_eq_getElem h] at hf ⊢
 simpa using hf
theorem entCells_set (xs : List Ent) (n : Int) : ∀ (i : Nat), i < xs.length -> (entCells xs).set (i * 3 + 2) (.int .i64 n) = entCells (xs.take i ++ ⟨(xs[i]?.getD Ent.z).a, (xs[i]?.getD Ent.z).l, n⟩ :: xs.drop (i + 1)) := by
 induction xs with
 | nil => intro i h; simp at h
 | cons x xs ih =>
  intro i h
  cases i with
  | zero => simp [entCells, Ent.cells]
  | succ i =>
   have := ih i (by simpa using h)
   rw [entCells_cons, show (i + 1) * 3 + 2 = (i * 3 + 2) + 1 + 1 + 1 by omega]
   simp only [Ent.cells, List.cons_append, List.nil_append, List.set_cons_succ, this]
   simp [entCells, Ent.cells]
def StoreF (w : World) (st : Nat) (xs : List Ent) (F : List Nat) : Prop := ∃ v, StoreAt w st v xs /\ F = st :: v.ownBlock.toList
theorem StoreF.lt {w : World} {st : Nat} {xs : List Ent} {F : List Nat} (h : StoreF w st xs F) : ∀ k ∈ F, k < w.heap.size := by
 obtain ⟨v, hS, rfl⟩ := h
 intro k hk
 rcases List.mem_cons.1 hk with rfl | hk
 ·exact hS.lt
 ·exact hS.2.1.lt k (by simpa using hk)
theorem StoreF.kept {w w' : World} {st : Nat} {xs : List Ent} {F : List Nat} (h : StoreF w st xs F) (hk : ∀ k ∈ F, w'.heap[k]? = w.heap[k]?) : StoreF w' st xs F := by
 obtain ⟨v, hS, rfl⟩ := h
 exact ⟨v, ⟨(hk st (by simp)).trans hS.1, hS.2.1.kept fun g hg => hk g (by simp [hg]), hS.2.2⟩, rfl⟩
set_option maxHeartbeats 400000 in
theorem stoPut_old (st : Nat) (v : Value) (xs : List Ent) (b m n : Int) (w : World) (hS : StoreAt w st v xs) (hg : isS (getE xs b m) = true) (hlim : xs.length < 1000000) :
  Calls Tryz.prog 180 #[ptrV st, pfxV b m, .int .i64 n] w fun r w' => (∃ v', StoreAt w' st v' (putE xs b m n) /\ v'.ownBlock = v.ownBlock) /\ Only (st :: v.ownBlock.toList) w w' /\ r = .returned (.tuple #[.int .i64 (orZ (getE xs b m)), .bool true]) := by
 have hB1 : Below w.heap.size w (w.alloc (Obj.cells #[.int .i64 b, .int .i64 m] 65)) := (Below.refl _ w).alloc (Nat.le_refl _) _
 go_enter Tryz.func180, Tryz.ntmps180
 go_wp2_with fail
 refine (find_any st v xs b m _ (hS.later hB1)).mono ?_
 rintro r w1 ⟨hB, i, hp, rfl⟩
 have hge := place_get hS.2.2.2.1 hp
 have hput := place_put (n := n) hS.2.2.2.1 hp
 have hB2 := hB1.trans (hB.mono (by simp))
 have hS1 := hS.later hB2
 cases hf : FoundAt xs b m i with
 | false => rw [hge, hf] at hg; cases hg
 | true =>
  rw [hf] at hge hput
  simp only [if_true] at hge hput
  have hil := found_lt hf
  obtain ⟨ka, kl⟩ := found_key hf
  have hset := entCells_set xs n i hil
  rw [ka, kl, <- hput] at hset
  rcases hS1.2.1 with ⟨rfl, rfl⟩ | ⟨g, cap, sp, rfl, hgg, hl, hnc, hcm⟩
  ·simp at hil
  ·have hx : EntsAt w1 g xs := RowAt.ents (cap := cap) (.inr ⟨g, cap, sp, rfl, hgg, hl, hnc, hcm⟩)
   obtain ⟨x0, x1, x2⟩ := hx i hil
   have c1 := hS1.c1
   have fg : ∀ o, w1.frozen? ⟨g, o, none⟩ = false := fun o => by simp [World.frozen?, hgg]
   have i0 : (0 : Int) <= (i : Int) := by omega
   have i1 : (i : Int) < (xs.length : Int) := by omega
   have hlp : (putE xs b m n).length = xs.length := by rw [hput]; simp; omega
   have hne : g ≠ st := fun e => hS1.2.2.1 (by rw [e]; rfl)
   have fin : Hid ((∃ v', StoreAt (w1.setCell ⟨g, i * 3 + 2, none⟩ (.int .i64 n)) st v' (putE xs b m n) /\ v'.ownBlock = some g) /\ Only (st :: (some g).toList) w (w1.setCell ⟨g, i * 3 + 2, none⟩ (.int .i64 n))) := by
    have e1 := setCell_eq_setRow w1 g (i * 3 + 2) _ 199 (0, 0) (.int .i64 n) hgg
    have e2 : (entCells xs ++ sp).toArray.setIfInBounds (i * 3 + 2) (.int .i64 n) = (entCells (putE xs b m n) ++ sp).toArray := by
     apply Array.ext'
     have hlx := entCells_length xs
     rw [Array.toList_setIfInBounds]
     show (entCells xs ++ sp).set (i * 3 + 2) (.int .i64 n) = entCells (putE xs b m n) ++ sp
     rw [List.set_append_left _ _ (by omega), hset]
    rw [e1, e2]
    refine ⟨⟨.slice (some ⟨g, 0, none⟩) xs.length cap, ⟨(setRow_other w1 g st _ (fun e => hne e.symm)).trans hS1.1, .inr ⟨g, cap, sp, by rw [hlp], setRow_heap w1 g _ _ _ _ hgg, ?_, by rw [hlp]; exact hnc, hcm⟩, hS1.2.2.1, putE_sorted hS1.2.2.2.1, by rw [hlp]; exact hS1.2.2.2.2⟩, rfl⟩, ?_⟩
    ·rw [List.length_append, entCells_length] at hl ⊢
     rw [hlp]; exact hl
    ·exact (Only.of_below _ hB2).trans (grownBy_only (grownBy_setRow' g _)) (fun x hx => .inl (by simp at hx ⊢; exact .inr hx))
   have HG := hide hge
   clear hge hput hg hf hp hx hgg hl ka kl hset hlp hS hS1
   generalize xs[i]?.getD Ent.z = y at *
   go_wp2
   go_ret2
   exact ⟨fin.out.1, fin.out.2, by rw [HG.out]; rfl⟩
theorem RowAt.shape {w : World} {v : Value} {xs : List Ent} (h : RowAt w v xs) : ∃ a n c, v = .slice a n c := by
 rcases h with ⟨rfl, _⟩ | ⟨g, cap, sp, rfl, _⟩
 ·exact ⟨_, _, _, rfl⟩
 ·exact ⟨_, _, _, rfl⟩
theorem insert_new (st kb : Nat) (v : Value) (xs : List Ent) (b m n : Int) (i : Nat) (w1 : World) (hS : StoreAt w1 st v xs) (hi : i <= xs.length) (hkb : kb < w1.heap.size) (hkn : v.ownBlock ≠ some kb) :
  Calls Tryz.prog 183 #[v, .int .i64 i, .slice (some ⟨w1.heap.size, 0, none⟩) 1 1] (w1.alloc (Obj.cells #[.int .i64 b, .int .i64 m, .int .i64 n] 199)).drew fun e w' =>
   ∃ a' n' cap', e = .returned (.slice a' n' cap') /\ RowAt w' (.slice a' n' cap') (xs.take i ++ ⟨b, m, n⟩ :: xs.drop i) /\ Only v.ownBlock.toList w1 w' /\ ((Value.slice a' n' cap').ownBlock = v.ownBlock ∨ ∃ g, (Value.slice a' n' cap').ownBlock = some g /\ w1.heap.size <= g) ∧
    (∀ o, w'.cell? ⟨st, o, none⟩ = w1.cell? ⟨st, o, none⟩) /\ (∀ o, w'.frozen? ⟨st, o, none⟩ = w1.frozen? ⟨st, o, none⟩) /\ (∀ o, w'.cell? ⟨kb, o, none⟩ = w1.cell? ⟨kb, o, none⟩) /\ (Value.slice a' n' cap').ownBlock ≠ some st := by
 have hB : Below w1.heap.size w1 (w1.alloc (Obj.cells #[.int .i64 b, .int .i64 m, .int .i64 n] 199)).drew := ((Below.refl _ w1).alloc (Nat.le_refl _) _).drew
 have hO1 : OneAt (w1.alloc (Obj.cells #[.int .i64 b, .int .i64 m, .int .i64 n] 199)).drew w1.heap.size ⟨b, m, n⟩ := heap_alloc_new w1 _
 have hlt := hS.lt
 refine (insert_any _ v xs i w1.heap.size ⟨b, m, n⟩ ((hS.later hB).2.1) hO1 (fun h => by have := hS.2.1.lt _ h; omega) hi hS.2.2.2.2).mono ?_
 rintro e w' ⟨v', rfl, hr, hg, hv⟩
 have hO : Only v.ownBlock.toList w1 w' := (Only.of_below _ hB).trans (grownBy_only hg) (fun x hx => .inl hx)
 have hns : st ∉ v.ownBlock.toList := by simpa using hS.2.2.1
 have hnk : kb ∉ v.ownBlock.toList := by simpa using hkn
 have hv' : v'.ownBlock = v.ownBlock ∨ ∃ g, v'.ownBlock = some g /\ w1.heap.size <= g := by
  rcases hv with h | ⟨g, h1, h2⟩
  ·exact .inl h
  ·exact .inr ⟨g, h1, by have := hB.size; omega⟩
 obtain ⟨a', n', cap', rfl⟩ := hr.shape
 refine ⟨a', n', cap', rfl, hr, hO, hv', fun o => hO.cell hlt hns, fun o => hO.frozen hlt hns, fun o => hO.cell hkb hnk, fun h => ?_⟩
 rcases hv' with h1 | ⟨g, h1, h2⟩
 ·exact hS.2.2.1 (h1 ▸ h)
 ·rw [h1] at h; cases h; omega
theorem store_set {w1 w2 : World} {st n' cap' : Nat} {v : Value} {a' : Option Addr} {xs xs' : List Ent} (hS : StoreAt w1 st v xs) (hr : RowAt w2 (.slice a' n' cap') xs') (hO : Only v.ownBlock.toList w1 w2) (hvs : (Value.slice a' n' cap').ownBlock ≠ some st) (hs : Sorted xs') (hl : xs'.length <= 1000000) :
  StoreAt (w2.setCell ⟨st, 1, none⟩ (.slice a' n' cap')) st (.slice a' n' cap') xs' /\ Only (st :: v.ownBlock.toList) w1 (w2.setCell ⟨st, 1, none⟩ (.slice a' n' cap')) := by
 have hns : st ∉ v.ownBlock.toList := by simpa using hS.2.2.1
 have h2 : w2.heap[st]? = some (.cells #[cmpV, v] 183 (0, 0)) := (hO.block st hS.lt hns).trans hS.1
 have e1 := setCell_eq_setRow w2 st 1 _ 183 (0, 0) (.slice a' n' cap') h2
 rw [e1]
 have e2 : (#[cmpV, v] : Array Value).setIfInBounds 1 (.slice a' n' cap') = #[cmpV, .slice a' n' cap'] := by simp
 rw [e2]
 refine ⟨⟨setRow_heap w2 st _ _ _ _ h2, hr.kept fun g hg => setRow_other w2 st g _ (fun e => hvs (by rw [hg, e])), hvs, hs, hl⟩, ?_⟩
 exact (hO.mono (G := st :: v.ownBlock.toList) (fun x hx _ => by simp; exact .inr (by simpa using hx))).trans (grownBy_only (grownBy_setRow' st _)) (fun x hx => .inl (by simp at hx; simp [hx]))
set_option maxHeartbeats 400000 in
theorem stoPut_new (st : Nat) (v : Value) (xs : List Ent) (b m n : Int) (w : World) (hS : StoreAt w st v xs) (hg : isS (getE xs b m) = false) (hlim : xs.length < 1000000) :
  Calls Tryz.prog 180 #[ptrV st, pfxV b m, .int .i64 n] w fun r w' => (∃ v', StoreAt w' st v' (putE xs b m n) /\ (v'.ownBlock = v.ownBlock ∨ ∃ g, v'.ownBlock = some g /\ w.heap.size <= g)) /\ Only (st :: v.ownBlock.toList) w w' /\ r = .returned (.tuple #[.int .i64 0, .bool false]) := by
 have hB1 : Below w.heap.size w (w.alloc (Obj.cells #[.int .i64 b, .int .i64 m] 65)) := (Below.refl _ w).alloc (Nat.le_refl _) _
 go_enter Tryz.func180, Tryz.ntmps180
 go_wp2_with fail
 refine (find_any st v xs b m _ (hS.later hB1)).mono ?_
 rintro r w1 ⟨hB, i, hp, rfl⟩
 have hge := place_get hS.2.2.2.1 hp
 have hput := place_put (n := n) hS.2.2.2.1 hp
 have hB2 := hB1.trans (hB.mono (by simp))
 have hS1 := hS.later hB2
 cases hf : FoundAt xs b m i with
 | true => rw [hge, hf] at hg; cases hg
 | false =>
  rw [hf] at hge hput
  simp only [Bool.false_eq_true, if_false] at hge hput
  have c1 := hS1.c1
  have f1 := hS1.fz 1
  have k0 : w1.cell? ⟨w.heap.size, 0, none⟩ = some (.int .i64 b) := (hB.cell (p := ⟨w.heap.size, 0, none⟩) (by simp)).trans (by simp [go_sem])
  have k1 : w1.cell? ⟨w.heap.size, 1, none⟩ = some (.int .i64 m) := (hB.cell (p := ⟨w.heap.size, 1, none⟩) (by simp)).trans (by simp [go_sem])
  have hst := hS1.lt
  have hwl : w.heap.size < w1.heap.size := by have := hB.size; simp at this; omega
  clear hge hf hg
  go_wp2
  go_region_with (first
    | (go_at_call 183; refine (insert_new st w.heap.size v xs b m n i w1 hS1 hp.1 hwl (fun h => by have := hS.2.1.lt _ h; omega)).mono ?_; rintro _ w2 ⟨a', n', cap', rfl, hr, hO, hv', hcs, hfs, hck, hvs⟩; have f2 := (hfs 1).trans f1))
  all_goals
   rw [<- hput] at hr
   have hlp : (putE xs b m n).length <= 1000000 := by rw [hput]; simp; have := hp.1; omega
   obtain ⟨hs3, ho3⟩ := store_set hS1 hr hO hvs (putE_sorted hS1.2.2.2.1) hlp
   have fin : Hid ((∃ v', StoreAt (w2.setCell ⟨st, 1, none⟩ (.slice a' n' cap')) st v' (putE xs b m n) /\ (v'.ownBlock = v.ownBlock ∨ ∃ g, v'.ownBlock = some g /\ w.heap.size <= g)) /\ Only (st :: v.ownBlock.toList) w (w2.setCell ⟨st, 1, none⟩ (.slice a' n' cap'))) :=
    ⟨⟨_, hs3, hv'.imp id fun ⟨g, h1, h2⟩ => ⟨g, h1, by omega⟩⟩, (Only.of_below _ hB2).trans ho3 (fun x hx => .inl hx)⟩
   clear hs3 ho3 hr hO hv' hvs f2 hput hp hS hS1 c1 f1 k0 k1
   go_wp2
   go_ret2
   exact ⟨fin.out.1, fin.out.2, rfl⟩
end Go.Proofs.YtglbamalagacgaaGreat

namespace Go.Proofs.YtglbamalagacgaaGreat.R
open Go.RowKit
set_option maxHeartbeats 400000 in
theorem bsearch_nil (b : Int) (bx : Nat) (w : World) :
  Calls Tryz.prog 150 #[.slice none 0 0, .int .i64 b, .func (.func 151) #[] #[ptrV bx]] w fun r w' =>
   Below w.heap.size w w' /\ r = .returned (.tuple #[.int .i64 0, .bool false]) := by
 go_enter Tryz.func150, Tryz.ntmps150
 go_wp2
 refine wp_loop_rounds 1 ?_
 rw [rounds_succ]
 go_wp2
 go_ret2
 exact ⟨(by repeat (first | exact Below.refl _ _ | refine below_drewN ?_ _ | refine Below.drew ?_ | refine Below.trans ?_ (Below.mono (by assumption) ?_) | refine Below.alloc ?_ ?_ _ | refine Below.setCell ?_ ?_ _ | omega | (simp; omega) | simp)), rfl⟩
theorem cmpI_neg (a b : Int) : cmpI a b < 0 ↔ a < b := by
 unfold cmpI
 (repeat' split) <;> omega
theorem cmpI_zero (a b : Int) : cmpI a b = 0 ↔ a = b := by
 unfold cmpI
 (repeat' split) <;> omega
def Sorted (xs : List Ent) : Prop := xs.Pairwise fun x y => x.k < y.k
def Place (xs : List Ent) (b : Int) (i : Nat) : Prop := i <= xs.length /\ (∀ x ∈ xs.take i, x.k < b) /\ (∀ x ∈ xs.drop i, ¬ x.k < b)
def FoundAt (xs : List Ent) (b : Int) (i : Nat) : Bool := match xs[i]? with
 | some x => x.k == b
 | none => false
theorem getD_mem {xs : List Ent} {k : Nat} (h : k < xs.length) : xs[k]?.getD Ent.z = xs[k] := by simp [h]
theorem bsearch_row (xs : List Ent) (v : Value) (bx st : Nat) (b : Int) (w : World) (hs : Sorted xs) (hn : xs.length <= 1000000) (hrow : RowAt w v xs)
  (hbx : w.cell? ⟨bx, 0, none⟩ = some (ptrV st)) (hst : w.cell? ⟨st, 0, none⟩ = some cmpIV) :
  Calls Tryz.prog 150 #[v, .int .i64 b, .func (.func 151) #[] #[ptrV bx]] w fun r w' =>
   Below w.heap.size w w' /\ ∃ i : Nat, Place xs b i /\ r = .returned (.tuple #[.int .i64 i, .bool (FoundAt xs b i)]) := by
 rcases hrow with ⟨rfl, rfl⟩ | ⟨g, cap, sp, rfl, hg, hl, hnc, hcm⟩
 ·refine (bsearch_nil b bx w).mono ?_
  rintro r w' ⟨hB, rfl⟩
  exact ⟨hB, 0, ⟨Nat.le_refl _, by simp, by simp⟩, rfl⟩
 ·have hx : EntsAt w g xs := RowAt.ents (cap := cap) (.inr ⟨g, cap, sp, rfl, hg, hl, hnc, hcm⟩)
  have hp := List.pairwise_iff_getElem.1 hs
  refine (bsearch_any xs g cap bx st b w hn hx hbx hst ?_).mono ?_
  ·intro i j hij hj h
   rw [cmpI_neg] at h ⊢
   rcases Nat.lt_or_eq_of_le hij with h1 | rfl
   ·rw [getD_mem hj] at h
    rw [getD_mem (by omega)]
    exact Int.lt_trans (hp i j (by omega) hj h1) h
   ·exact h
  ·rintro r w' ⟨hB, i, hi, hlo, hhi, rfl⟩
   refine ⟨hB, i, ⟨hi, fun x hx => ?_, fun x hx => ?_⟩, ?_⟩
   ·obtain ⟨k, hk, rfl⟩ := List.mem_iff_getElem.1 hx
    rw [List.length_take] at hk
    have := hlo k (by omega)
    rw [getD_mem (by omega), cmpI_neg] at this
    simpa using this
   ·obtain ⟨k, hk, rfl⟩ := List.mem_iff_getElem.1 hx
    rw [List.length_drop] at hk
    have := hhi (i + k) (by omega) (by omega)
    rw [getD_mem (by omega)] at this
    intro h
    rw [<- cmpI_neg] at h
    simp at h
    omega
   ·have e : (decide (i < xs.length) && (cmpI (xs[i]?.getD Ent.z).k b == 0)) = FoundAt xs b i := by
     unfold FoundAt
     by_cases hil : i < xs.length
     ·rw [getD_mem hil, List.getElem?_eq_getElem hil]
      simp only [hil, decide_true, Bool.true_and]
      rw [Bool.eq_iff_iff]
      simp [cmpI_zero]
     ·rw [List.getElem?_eq_none (by omega)]
      simp [hil]
    rw [e]
def StoreAt (w : World) (st : Nat) (v : Value) (xs : List Ent) : Prop :=
 w.heap[st]? = some (.cells #[cmpIV, v] 186 (0, 0)) /\ RowAt w v xs /\ v.ownBlock ≠ some st /\ Sorted xs /\ xs.length <= 1000000
theorem StoreAt.c0 {w : World} {st : Nat} {v : Value} {xs : List Ent} (h : StoreAt w st v xs) : w.cell? ⟨st, 0, none⟩ = some cmpIV := by simp [World.cell?, h.1]
theorem StoreAt.c1 {w : World} {st : Nat} {v : Value} {xs : List Ent} (h : StoreAt w st v xs) : w.cell? ⟨st, 1, none⟩ = some v := by simp [World.cell?, h.1]
theorem StoreAt.fz {w : World} {st : Nat} {v : Value} {xs : List Ent} (h : StoreAt w st v xs) (o : Nat) : w.frozen? ⟨st, o, none⟩ = false := by simp [World.frozen?, h.1]
theorem StoreAt.lt {w : World} {st : Nat} {v : Value} {xs : List Ent} (h : StoreAt w st v xs) : st < w.heap.size := (Array.getElem?_eq_some_iff.1 h.1).1
theorem RowAt.lt {w : World} {v : Value} {xs : List Ent} (h : RowAt w v xs) : ∀ g, v.ownBlock = some g -> g < w.heap.size := by
 intro g hg
 rcases h with ⟨rfl, _⟩ | ⟨g', cap, sp, rfl, hg', _⟩
 ·cases hg
 ·cases hg; exact (Array.getElem?_eq_some_iff.1 hg').1
theorem StoreAt.later {w w' : World} {st : Nat} {v : Value} {xs : List Ent} (h : StoreAt w st v xs) (hB : Below w.heap.size w w') : StoreAt w' st v xs :=
 ⟨(hB.block st h.lt).trans h.1, h.2.1.kept fun g hg => hB.block g (h.2.1.lt g hg), h.2.2⟩
set_option maxHeartbeats 400000 in
theorem find_any (st : Nat) (v : Value) (xs : List Ent) (b : Int) (w : World) (hS : StoreAt w st v xs) :
  Calls Tryz.prog 146 #[ptrV st, .int .i64 b] w fun r w' =>
   Below w.heap.size w w' /\ ∃ i : Nat, Place xs b i /\ r = .returned (.tuple #[.int .i64 i, .bool (FoundAt xs b i)]) := by
 have c0 := hS.c0
 have c1 := hS.c1
 have hlt := hS.lt
 have hB1 : Below w.heap.size w (w.alloc (Obj.cells #[ptrV st] 173)) := (Below.refl _ w).alloc (Nat.le_refl _) _
 have hS1 := hS.later hB1
 have c01 := hS1.c0
 go_enter Tryz.func146, Tryz.ntmps146
 go_wp2_with fail
 refine (bsearch_row xs v w.heap.size st b _ hS.2.2.2.1 hS.2.2.2.2 hS1.2.1 (by simp [go_sem]) c01).mono ?_
 rintro _ w' ⟨hb, i, hp, rfl⟩
 have fin := hide (show Below w.heap.size w w' from hB1.trans (hb.mono (by simp)))
 clear hB1 hb hS hS1 c0 c1 c01
 go_wp2
 go_ret2
 exact ⟨fin.out, i, hp, rfl⟩
def Ent.val (x : Ent) : Go.Proofs.YtglbamalagacgaaGreat.Ent := ⟨x.a, x.l, x.n⟩
def mkE (k : Int) (r : Go.Proofs.YtglbamalagacgaaGreat.Ent) : Ent := ⟨k, r.a, r.l, r.n⟩
def getR : List Ent -> Int -> Option Go.Proofs.YtglbamalagacgaaGreat.Ent
 | [], _ => none
 | x :: xs, k => if x.k = k then some x.val else getR xs k
def putR : List Ent -> Int -> Go.Proofs.YtglbamalagacgaaGreat.Ent -> List Ent
 | [], k, r => [mkE k r]
 | x :: xs, k, r => if x.k < k then x :: putR xs k r else if x.k = k then mkE k r :: xs else mkE k r :: x :: xs
def delR : List Ent -> Int -> List Ent
 | [], _ => []
 | x :: xs, k => if x.k = k then xs else x :: delR xs k
def lastR : List Ent -> Int -> Option Go.Proofs.YtglbamalagacgaaGreat.Ent
 | [], _ => none
 | x :: xs, k => if x.k <= k then (match lastR xs k with | some r => some r | none => some x.val) else none
theorem Place.cons {x : Ent} {xs : List Ent} {b : Int} {i : Nat} (h : Place (x :: xs) b (i + 1)) : x.k < b /\ Place xs b i := by
 obtain ⟨h1, h2, h3⟩ := h
 exact ⟨h2 x (by simp), by simpa using h1, fun y hy => h2 y (by simp [hy]), fun y hy => h3 y (by simpa using hy)⟩
theorem sorted_tail {x : Ent} {xs : List Ent} (h : Sorted (x :: xs)) : Sorted xs /\ ∀ y ∈ xs, x.k < y.k := by
 have := List.pairwise_cons.1 h
 exact ⟨this.2, this.1⟩
theorem getR_none {xs : List Ent} {k : Int} (h : ∀ y ∈ xs, ¬ y.k = k) : getR xs k = none := by
 induction xs with
 | nil => rfl
 | cons x xs ih => rw [getR, if_neg (h x (by simp)), ih fun y hy => h y (by simp [hy])]
theorem place_get {xs : List Ent} {b : Int} (hs : Sorted xs) : ∀ {i : Nat}, Place xs b i -> getR xs b = if FoundAt xs b i then some (xs[i]?.getD Ent.z).val else none := by
 induction xs with
 | nil => intro i _; simp [getR, FoundAt]
 | cons x xs ih =>
  obtain ⟨hs1, hs2⟩ := sorted_tail hs
  intro i h
  cases i with
  | zero =>
   have h3 := h.2.2
   by_cases hx : x.k = b
   ·simp [getR, FoundAt, hx]
   ·have : getR xs b = none := getR_none fun y hy he => by
     have := hs2 y hy
     have := h3 x (by simp)
     omega
    simp [getR, FoundAt, hx, this]
  | succ i =>
   obtain ⟨hk, hp⟩ := h.cons
   have hx : ¬ (x.k = b) := by omega
   have e : FoundAt (x :: xs) b (i + 1) = FoundAt xs b i := rfl
   rw [getR, if_neg hx, ih hs1 hp, e]
   rfl
theorem place_put {xs : List Ent} {b : Int} {r : Go.Proofs.YtglbamalagacgaaGreat.Ent} (hs : Sorted xs) : ∀ {i : Nat}, Place xs b i -> putR xs b r = xs.take i ++ mkE b r :: xs.drop (if FoundAt xs b i then i + 1 else i) := by
 induction xs with
 | nil => intro i _; simp [putR, FoundAt]
 | cons x xs ih =>
  obtain ⟨hs1, hs2⟩ := sorted_tail hs
  intro i h
  cases i with
  | zero =>
   have h3 := h.2.2 x (by simp)
   by_cases hx : x.k = b
   ·rw [putR, if_neg h3, if_pos hx]; simp [FoundAt, hx]
   ·rw [putR, if_neg h3, if_neg hx]; simp [FoundAt, hx]
  | succ i =>
   obtain ⟨hk, hp⟩ := h.cons
   have e : FoundAt (x :: xs) b (i + 1) = FoundAt xs b i := rfl
   rw [putR, if_pos hk, ih hs1 hp, e]
   split <;> rfl
theorem place_del {xs : List Ent} {b : Int} (hs : Sorted xs) : ∀ {i : Nat}, Place xs b i -> FoundAt xs b i = true -> delR xs b = xs.take i ++ xs.drop (i + 1) := by
 induction xs with
 | nil => intro i _ h; simp [FoundAt] at h
 | cons x xs ih =>
  obtain ⟨hs1, hs2⟩ := sorted_tail hs
  intro i h hf
  cases i with
  | zero => simp [FoundAt] at hf; simp [delR, hf]
  | succ i =>
   obtain ⟨hk, hp⟩ := h.cons
   have hx : ¬ (x.k = b) := by omega
   rw [delR, if_neg hx, ih hs1 hp hf]
   rfl
theorem lastR_none {xs : List Ent} {b : Int} (h : ∀ y ∈ xs, b < y.k) : lastR xs b = none := by
 cases xs with
 | nil => rfl
 | cons x xs => rw [lastR, if_neg (by have := h x (by simp); omega)]
theorem place_last {xs : List Ent} {b : Int} (hs : Sorted xs) : ∀ {i : Nat}, Place xs b i -> lastR xs b = if FoundAt xs b i then some (xs[i]?.getD Ent.z).val else if i = 0 then none else some (xs[i - 1]?.getD Ent.z).val := by
 induction xs with
 | nil => intro i h; have := h.1; simp at this; simp [lastR, FoundAt, this]
 | cons x xs ih =>
  obtain ⟨hs1, hs2⟩ := sorted_tail hs
  intro i h
  cases i with
  | zero =>
   have h3 := h.2.2 x (by simp)
   by_cases hx : x.k = b
   ·have : lastR xs b = none := lastR_none fun y hy => by have := hs2 y hy; omega
    simp [lastR, FoundAt, hx, this]
   ·rw [lastR, if_neg (by omega)]; simp [FoundAt, hx]
  | succ i =>
   obtain ⟨hk, hp⟩ := h.cons
   have e : FoundAt (x :: xs) b (i + 1) = FoundAt xs b i := rfl
   rw [lastR, if_pos (by omega), ih hs1 hp, e]
   cases hf : FoundAt xs b i with
   | true => simp
   | false =>
    cases i with
    | zero => simp
    | succ j => simp
theorem putR_mem {xs : List Ent} {k : Int} {r : Go.Proofs.YtglbamalagacgaaGreat.Ent} {y : Ent} (h : y ∈ putR xs k r) : y = mkE k r ∨ y ∈ xs := by
 induction xs with
 | nil => simp [putR] at h; exact .inl h
 | cons x xs ih =>
  rw [putR] at h
  split at h
  ·rcases List.mem_cons.1 h with rfl | h
   ·simp
   ·rcases ih h with h | h <;> simp [h]
  ·split at h
   ·rcases List.mem_cons.1 h with rfl | h <;> simp [*]
   ·rcases List.mem_cons.1 h with rfl | h
    ·simp
    ·exact .inr h
theorem delR_mem {xs : List Ent} {k : Int} {y : Ent} (h : y ∈ delR xs k) : y ∈ xs := by
 induction xs with
 | nil => simp [delR] at h
 | cons x xs ih =>
  rw [delR] at h
  split at h
  ·simp [h]
  ·rcases List.mem_cons.1 h with rfl | h
   ·simp
   ·simp [ih h]
theorem putR_sorted {xs : List Ent} {k : Int} {r : Go.Proofs.YtglbamalagacgaaGreat.Ent} (hs : Sorted xs) : Sorted (putR xs k r) := by
 induction xs with
 | nil => simp [putR, Sorted]
 | cons x xs ih =>
  obtain ⟨hs1, hs2⟩ := sorted_tail hs
  rw [putR]
  split
  ·rename_i h
   refine List.pairwise_cons.2 ⟨fun y hy => ?_, ih hs1⟩
   rcases putR_mem hy with rfl | hy
   ·exact h
   ·exact hs2 y hy
  ·rename_i h
   split
   ·rename_i he
    refine List.pairwise_cons.2 ⟨fun y hy => ?_, hs1⟩
    have := hs2 y hy
    show k < y.k
    omega
   ·rename_i he
    refine List.pairwise_cons.2 ⟨fun y hy => ?_, hs⟩
    show k < y.k
    rcases List.mem_cons.1 hy with rfl | hy
    ·omega
    ·have := hs2 y hy; omega
theorem delR_sorted {xs : List Ent} {k : Int} (hs : Sorted xs) : Sorted (delR xs k) := by
 induction xs with
 | nil => exact hs
 | cons x xs ih =>
  obtain ⟨hs1, hs2⟩ := sorted_tail hs
  rw [delR]
  split
  ·exact hs1
  ·exact List.pairwise_cons.2 ⟨fun y hy => hs2 y (delR_mem hy), ih hs1⟩
theorem val_mkE (k : Int) (r : Go.Proofs.YtglbamalagacgaaGreat.Ent) : (mkE k r).val = r := rfl
theorem getR_put {xs : List Ent} {k : Int} {r : Go.Proofs.YtglbamalagacgaaGreat.Ent} (hs : Sorted xs) (b : Int) : getR (putR xs k r) b = if k = b then some r else getR xs b := by
 induction xs with
 | nil => simp [putR, getR, mkE, Ent.val]
 | cons x xs ih =>
  obtain ⟨hs1, hs2⟩ := sorted_tail hs
  rw [putR]
  split
  ·rename_i h
   rw [getR, getR, ih hs1]
   by_cases h1 : x.k = b
   ·rw [if_pos h1, if_pos h1, if_neg (by omega)]
   ·rw [if_neg h1, if_neg h1]
  ·split
   ·rename_i h he
    rw [getR, getR, val_mkE]
    show (if k = b then _ else _) = _
    by_cases h1 : k = b
    ·rw [if_pos h1, if_pos h1]
    ·rw [if_neg h1, if_neg h1, if_neg (by omega)]
   ·rw [getR, val_mkE]
    rfl
theorem getR_del {xs : List Ent} {k : Int} (hs : Sorted xs) (b : Int) : getR (delR xs k) b = if k = b then none else getR xs b := by
 induction xs with
 | nil => simp [delR, getR]
 | cons x xs ih =>
  obtain ⟨hs1, hs2⟩ := sorted_tail hs
  rw [delR]
  split
  ·rename_i he
   by_cases h1 : k = b
   ·rw [if_pos h1]
    exact getR_none fun y hy h => by have := hs2 y hy; omega
   ·rw [if_neg h1, getR, if_neg (by omega)]
  ·rename_i he
   rw [getR, getR, ih hs1]
   by_cases h1 : x.k = b
   ·rw [if_pos h1, if_pos h1, if_neg (by omega)]
   ·rw [if_neg h1, if_neg h1]
end Go.Proofs.YtglbamalagacgaaGreat.R

namespace Go.Proofs.YtglbamalagacgaaGreat
open Go.RowKit
theorem delE_none {xs : List Ent} {a l : Int} (h : getE xs a l = none) : delE xs a l = xs := by
 induction xs with
 | nil => rfl
 | cons x xs ih =>
  rw [getE] at h
  split at h
  ·cases h
  ·rename_i hx; rw [delE, if_neg hx, ih h]
set_option maxHeartbeats 400000 in
theorem stoRemove_none (st : Nat) (v : Value) (xs : List Ent) (b m : Int) (w : World) (hS : StoreAt w st v xs) (hg : isS (getE xs b m) = false) :
  Calls Tryz.prog 181 #[ptrV st, pfxV b m] w fun r w' => Below w.heap.size w w' /\ r = .returned (.tuple #[.int .i64 0, .bool false]) := by
 have hB1 : Below w.heap.size w (w.alloc (Obj.cells #[.int .i64 b, .int .i64 m] 65)) := (Below.refl _ w).alloc (Nat.le_refl _) _
 go_enter Tryz.func181, Tryz.ntmps181
 go_wp2_with fail
 refine (find_any st v xs b m _ (hS.later hB1)).mono ?_
 rintro r w1 ⟨hB, i, hp, rfl⟩
 have hge := place_get hS.2.2.2.1 hp
 have hB2 := hB1.trans (hB.mono (by simp))
 cases hf : FoundAt xs b m i with
 | true => rw [hge, hf] at hg; cases hg
 | false =>
  clear hge hf hg hp
  go_wp2
  go_ret2
  exact ⟨hB2, rfl⟩
theorem delete_new (st : Nat) (v : Value) (xs : List Ent) (i : Nat) (w1 : World) (hS : StoreAt w1 st v xs) (hi : i < xs.length) :
  Calls Tryz.prog 184 #[v, .int .i64 i, .int .i64 ((i : Int) + 1)] w1 fun e w' =>
   ∃ a' n' cap', e = .returned (.slice a' n' cap') /\ RowAt w' (.slice a' n' cap') (xs.take i ++ xs.drop (i + 1)) /\ Only v.ownBlock.toList w1 w' /\ ((Value.slice a' n' cap').ownBlock = v.ownBlock ∨ ∃ g, (Value.slice a' n' cap').ownBlock = some g /\ w1.heap.size <= g) ∧
    (∀ o, w'.cell? ⟨st, o, none⟩ = w1.cell? ⟨st, o, none⟩) /\ (∀ o, w'.frozen? ⟨st, o, none⟩ = w1.frozen? ⟨st, o, none⟩) /\ (Value.slice a' n' cap').ownBlock ≠ some st := by
 have hlt := hS.lt
 refine (delete_any _ v xs i hS.2.1 hi hS.2.2.2.2).mono ?_
 rintro e w' ⟨v', rfl, hr, hg, hv'⟩
 have hO : Only v.ownBlock.toList w1 w' := grownBy_only hg
 have hns : st ∉ v.ownBlock.toList := by simpa using hS.2.2.1
 obtain ⟨a', n', cap', rfl⟩ := hr.shape
 refine ⟨a', n', cap', rfl, hr, hO, hv', fun o => hO.cell hlt hns, fun o => hO.frozen hlt hns, fun h => ?_⟩
 rcases hv' with h1 | ⟨g, h1, h2⟩
 ·exact hS.2.2.1 (h1 ▸ h)
 ·rw [h1] at h; cases h; omega
set_option maxHeartbeats 400000 in
theorem stoRemove_some (st : Nat) (v : Value) (xs : List Ent) (b m : Int) (w : World) (hS : StoreAt w st v xs) (hg : isS (getE xs b m) = true) :
  Calls Tryz.prog 181 #[ptrV st, pfxV b m] w fun r w' => (∃ v', StoreAt w' st v' (delE xs b m) /\ (v'.ownBlock = v.ownBlock ∨ ∃ g, v'.ownBlock = some g /\ w.heap.size <= g)) /\ Only (st :: v.ownBlock.toList) w w' /\ r = .returned (.tuple #[.int .i64 (orZ (getE xs b m)), .bool true]) := by
 have hB1 : Below w.heap.size w (w.alloc (Obj.cells #[.int .i64 b, .int .i64 m] 65)) := (Below.refl _ w).alloc (Nat.le_refl _) _
 go_enter Tryz.func181, Tryz.ntmps181
 go_wp2_with fail
 refine (find_any st v xs b m _ (hS.later hB1)).mono ?_
 rintro r w1 ⟨hB, i, hp, rfl⟩
 have hge := place_get hS.2.2.2.1 hp
 have hB2 := hB1.trans (hB.mono (by simp))
 have hS1 := hS.later hB2
 cases hf : FoundAt xs b m i with
 | false => rw [hge, hf] at hg; cases hg
 | true =>
  have hdel := place_del hS.2.2.2.1 hp hf
  rw [hf] at hge
  simp only [if_true] at hge
  have hil := found_lt hf
  have hlim := hS.2.2.2.2
  obtain ⟨g, cap, hv⟩ : ∃ g cap, v = .slice (some ⟨g, 0, none⟩) xs.length cap := by
   rcases hS1.2.1 with ⟨_, rfl⟩ | ⟨g, cap, sp, rfl, _⟩
   ·simp at hil
   ·exact ⟨g, cap, rfl⟩
  have hx : EntsAt w1 g xs := RowAt.ents (cap := cap) (n := xs.length) (hv ▸ hS1.2.1)
  obtain ⟨x0, x1, x2⟩ := hx i hil
  have c1 := hS1.c1
  have f1 := hS1.fz 1
  have i0 : (0 : Int) <= (i : Int) := by omega
  have i1 : (i : Int) < (xs.length : Int) := by omega
  have HG := hide hge
  have HD := hide hdel
  clear hge hdel hg hf hp hx
  subst hv
  generalize xs[i]?.getD Ent.z = y at *
  go_wp2_with (go_at_call 184; refine (delete_new st _ xs i w1 hS1 hil).mono ?_; rintro _ w2 ⟨a', n', cap', rfl, hr, hO, hv', hcs, hfs, hvs⟩; have f2 := (hfs 1).trans f1; have c2 := (hcs 1).trans c1)
  rw [<- HD.out] at hr
  have hlp : (delE xs b m).length <= 1000000 := by rw [HD.out]; simp; omega
  obtain ⟨hs3, ho3⟩ := store_set hS1 hr hO hvs (delE_sorted hS1.2.2.2.1) hlp
  go_ret2
  exact ⟨⟨_, hs3, hv'.imp id fun ⟨g, h1, h2⟩ => ⟨g, h1, by have := hB2.size; omega⟩⟩, (Only.of_below _ hB2).trans ho3 (fun x hx => .inl hx), by rw [HG.out]; rfl⟩
theorem foot_new {w : World} {st : Nat} {v v' : Value} (h : v'.ownBlock = v.ownBlock ∨ ∃ g, v'.ownBlock = some g /\ w.heap.size <= g) : ∀ k ∈ st :: v'.ownBlock.toList, k ∈ st :: v.ownBlock.toList ∨ w.heap.size <= k := by
 intro k hk
 rcases h with h | ⟨g, h1, h2⟩
 ·rw [h] at hk; exact .inl hk
 ·rw [h1] at hk
  simp at hk
  rcases hk with rfl | rfl
  ·simp
  ·exact .inr h2
theorem put_F (st : Nat) (xs : List Ent) (F : List Nat) (b m n : Int) (w : World) (hS : StoreF w st xs F) (hlim : xs.length < 1000000) :
  Calls Tryz.prog 180 #[ptrV st, pfxV b m, .int .i64 n] w fun r w' => (∃ F', StoreF w' st (putE xs b m n) F' /\ ∀ k ∈ F', k ∈ F ∨ w.heap.size <= k) /\ Only F w w' /\ r = .returned (.tuple #[.int .i64 (orZ (getE xs b m)), .bool (isS (getE xs b m))]) := by
 obtain ⟨v, hS, rfl⟩ := hS
 cases hg : isS (getE xs b m) with
 | true =>
  refine (stoPut_old st v xs b m n w hS hg hlim).mono ?_
  rintro r w' ⟨⟨v', h1, h2⟩, h3, rfl⟩
  exact ⟨⟨_, ⟨v', h1, rfl⟩, foot_new (.inl h2)⟩, h3, rfl⟩
 | false =>
  refine (stoPut_new st v xs b m n w hS hg hlim).mono ?_
  rintro r w' ⟨⟨v', h1, h2⟩, h3, rfl⟩
  refine ⟨⟨_, ⟨v', h1, rfl⟩, foot_new h2⟩, h3, ?_⟩
  cases h : getE xs b m with
  | none => rfl
  | some k => rw [h] at hg; cases hg
theorem remove_F (st : Nat) (xs : List Ent) (F : List Nat) (b m : Int) (w : World) (hS : StoreF w st xs F) :
  Calls Tryz.prog 181 #[ptrV st, pfxV b m] w fun r w' => (∃ F', StoreF w' st (delE xs b m) F' /\ ∀ k ∈ F', k ∈ F ∨ w.heap.size <= k) /\ Only F w w' /\ r = .returned (.tuple #[.int .i64 (orZ (getE xs b m)), .bool (isS (getE xs b m))]) := by
 obtain ⟨v, hS, rfl⟩ := hS
 cases hg : isS (getE xs b m) with
 | true =>
  refine (stoRemove_some st v xs b m w hS hg).mono ?_
  rintro r w' ⟨⟨v', h1, h2⟩, h3, rfl⟩
  exact ⟨⟨_, ⟨v', h1, rfl⟩, foot_new h2⟩, h3, rfl⟩
 | false =>
  have hn : getE xs b m = none := by
   cases h : getE xs b m with
   | none => rfl
   | some k => rw [h] at hg; cases hg
  refine (stoRemove_none st v xs b m w hS hg).mono ?_
  rintro r w' ⟨hB, rfl⟩
  rw [delE_none hn, hn]
  exact ⟨⟨_, ⟨v, hS.later hB, rfl⟩, fun k hk => .inl hk⟩, Only.of_below _ hB, rfl⟩
theorem get_F (st : Nat) (xs : List Ent) (F : List Nat) (b m : Int) (w : World) (hS : StoreF w st xs F) :
  Calls Tryz.prog 144 #[ptrV st, pfxV b m] w fun r w' => Below w.heap.size w w' /\ r = .returned (.tuple #[.int .i64 (orZ (getE xs b m)), .bool (isS (getE xs b m))]) := by
 obtain ⟨v, hS, rfl⟩ := hS
 exact stoGet_any st v xs b m w hS
theorem len_F (st : Nat) (xs : List Ent) (F : List Nat) (w : World) (hS : StoreF w st xs F) :
  Calls Tryz.prog 177 #[ptrV st] w fun r w' => w' = w /\ r = .returned (.int .i64 xs.length) := by
 obtain ⟨v, hS, rfl⟩ := hS
 exact stoLen_any st v xs w hS
end Go.Proofs.YtglbamalagacgaaGreat

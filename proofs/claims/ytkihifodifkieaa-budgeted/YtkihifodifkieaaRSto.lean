import Derived.Test.YtkihifodifkieaaRDel
import Derived.Test.YtkihifodifkieaaStm
namespace Go.Proofs.Ytkihifodifkieaa.R
open Go.RowKit

set_option maxHeartbeats 400000 in
theorem bsearch_nil (b : Int) (bx : Nat) (w : World) :
    Calls Try.prog 62 #[.slice none 0 0, .int .i64 b, .func (.func 63) #[] #[ptrV bx]] w fun r w' =>
      Below w.heap.size w w' ∧ r = .returned (.tuple #[.int .i64 0, .bool false]) := by
  go_enter Try.func62, Try.ntmps62
  go_wp2
  refine wp_loop_rounds 1 ?_
  rw [rounds_succ]
  go_wp2
  go_ret2
  exact ⟨(by repeat (first | exact Below.refl _ _ | refine below_drewN ?_ _ | refine Below.drew ?_ | refine Below.trans ?_ (Below.mono (by assumption) (by first | omega | (simp; omega) | simp)) | refine Below.alloc ?_ (by first | omega | (simp; omega) | simp) _ | refine Below.setCell ?_ (by first | omega | (simp; omega) | simp) _)), rfl⟩

theorem cmpI_neg (a b : Int) : cmpI a b < 0 ↔ a < b := by
  unfold cmpI
  (repeat' split) <;> omega
theorem cmpI_zero (a b : Int) : cmpI a b = 0 ↔ a = b := by
  unfold cmpI
  (repeat' split) <;> omega
def Sorted (xs : List Ent) : Prop := xs.Pairwise fun x y => x.k < y.k

-- where a key stands, or would stand
def Place (xs : List Ent) (b : Int) (i : Nat) : Prop := i ≤ xs.length ∧ (∀ x ∈ xs.take i, x.k < b) ∧ (∀ x ∈ xs.drop i, ¬ x.k < b)
def FoundAt (xs : List Ent) (b : Int) (i : Nat) : Bool := match xs[i]? with
  | some x => x.k == b
  | none => false

theorem getD_mem {xs : List Ent} {k : Nat} (h : k < xs.length) : xs[k]?.getD Ent.z = xs[k] := by simp [h]

theorem bsearch_row (xs : List Ent) (v : Value) (bx st : Nat) (b : Int) (w : World) (hs : Sorted xs) (hn : xs.length ≤ 1000000) (hrow : RowAt w v xs)
    (hbx : w.cell? ⟨bx, 0, none⟩ = some (ptrV st)) (hst : w.cell? ⟨st, 0, none⟩ = some cmpIV) :
    Calls Try.prog 62 #[v, .int .i64 b, .func (.func 63) #[] #[ptrV bx]] w fun r w' =>
      Below w.heap.size w w' ∧ ∃ i : Nat, Place xs b i ∧ r = .returned (.tuple #[.int .i64 i, .bool (FoundAt xs b i)]) := by
  rcases hrow with ⟨rfl, rfl⟩ | ⟨g, cap, sp, rfl, hg, hl, hnc, hcm⟩
  · refine (bsearch_nil b bx w).mono ?_
    rintro r w' ⟨hB, rfl⟩
    exact ⟨hB, 0, ⟨Nat.le_refl _, by simp, by simp⟩, rfl⟩
  · have hx : EntsAt w g xs := RowAt.ents (cap := cap) (.inr ⟨g, cap, sp, rfl, hg, hl, hnc, hcm⟩)
    have hp := List.pairwise_iff_getElem.1 hs
    refine (bsearch_any xs g cap bx st b w hn hx hbx hst ?_).mono ?_
    · intro i j hij hj h
      rw [cmpI_neg] at h ⊢
      rcases Nat.lt_or_eq_of_le hij with h1 | rfl
      · rw [getD_mem hj] at h
        rw [getD_mem (by omega)]
        exact Int.lt_trans (hp i j (by omega) hj h1) h
      · exact h
    · rintro r w' ⟨hB, i, hi, hlo, hhi, rfl⟩
      refine ⟨hB, i, ⟨hi, fun x hx => ?_, fun x hx => ?_⟩, ?_⟩
      · obtain ⟨k, hk, rfl⟩ := List.mem_iff_getElem.1 hx
        rw [List.length_take] at hk
        have := hlo k (by omega)
        rw [getD_mem (by omega), cmpI_neg] at this
        simpa using this
      · obtain ⟨k, hk, rfl⟩ := List.mem_iff_getElem.1 hx
        rw [List.length_drop] at hk
        have := hhi (i + k) (by omega) (by omega)
        rw [getD_mem (by omega)] at this
        intro h
        rw [← cmpI_neg] at h
        simp at h
        omega
      · have e : (decide (i < xs.length) && (cmpI (xs[i]?.getD Ent.z).k b == 0)) = FoundAt xs b i := by
          unfold FoundAt
          by_cases hil : i < xs.length
          · rw [getD_mem hil, List.getElem?_eq_getElem hil]
            simp only [hil, decide_true, Bool.true_and]
            rw [Bool.eq_iff_iff]
            simp [cmpI_zero]
          · rw [List.getElem?_eq_none (by omega)]
            simp [hil]
        rw [e]

-- A store: its block holds the order and the row; the row lies in another block.
def StoreAt (w : World) (st : Nat) (v : Value) (xs : List Ent) : Prop :=
  w.heap[st]? = some (.cells #[cmpIV, v] 106 (0, 0)) ∧ RowAt w v xs ∧ v.ownBlock ≠ some st ∧ Sorted xs ∧ xs.length ≤ 1000000

theorem StoreAt.c0 {w : World} {st : Nat} {v : Value} {xs : List Ent} (h : StoreAt w st v xs) : w.cell? ⟨st, 0, none⟩ = some cmpIV := by simp [World.cell?, h.1]
theorem StoreAt.c1 {w : World} {st : Nat} {v : Value} {xs : List Ent} (h : StoreAt w st v xs) : w.cell? ⟨st, 1, none⟩ = some v := by simp [World.cell?, h.1]
theorem StoreAt.fz {w : World} {st : Nat} {v : Value} {xs : List Ent} (h : StoreAt w st v xs) (o : Nat) : w.frozen? ⟨st, o, none⟩ = false := by simp [World.frozen?, h.1]
theorem StoreAt.lt {w : World} {st : Nat} {v : Value} {xs : List Ent} (h : StoreAt w st v xs) : st < w.heap.size := (Array.getElem?_eq_some_iff.1 h.1).1
theorem RowAt.lt {w : World} {v : Value} {xs : List Ent} (h : RowAt w v xs) : ∀ g, v.ownBlock = some g → g < w.heap.size := by
  intro g hg
  rcases h with ⟨rfl, _⟩ | ⟨g', cap, sp, rfl, hg', _⟩
  · cases hg
  · cases hg; exact (Array.getElem?_eq_some_iff.1 hg').1
theorem StoreAt.later {w w' : World} {st : Nat} {v : Value} {xs : List Ent} (h : StoreAt w st v xs) (hB : Below w.heap.size w w') : StoreAt w' st v xs :=
  ⟨(hB.block st h.lt).trans h.1, h.2.1.kept fun g hg => hB.block g (h.2.1.lt g hg), h.2.2⟩

set_option maxHeartbeats 400000 in
theorem find_any (st : Nat) (v : Value) (xs : List Ent) (b : Int) (w : World) (hS : StoreAt w st v xs) :
    Calls Try.prog 58 #[ptrV st, .int .i64 b] w fun r w' =>
      Below w.heap.size w w' ∧ ∃ i : Nat, Place xs b i ∧ r = .returned (.tuple #[.int .i64 i, .bool (FoundAt xs b i)]) := by
  have c0 := hS.c0
  have c1 := hS.c1
  have hlt := hS.lt
  have hB1 : Below w.heap.size w (w.alloc (Obj.cells #[ptrV st] 88)) := (Below.refl _ w).alloc (Nat.le_refl _) _
  have hS1 := hS.later hB1
  have c01 := hS1.c0
  go_enter Try.func58, Try.ntmps58
  go_wp2_with fail
  refine (bsearch_row xs v w.heap.size st b _ hS.2.2.2.1 hS.2.2.2.2 hS1.2.1 (by simp [go_sem]) c01).mono ?_
  rintro _ w' ⟨hb, i, hp, rfl⟩
  have fin := hide (show Below w.heap.size w w' from hB1.trans (hb.mono (by simp)))
  clear hB1 hb hS hS1 c0 c1 c01
  go_wp2
  go_ret2
  exact ⟨fin.out, i, hp, rfl⟩

-- What a list of entries says of a key; what it is behind a change.
def Ent.val (x : Ent) : Go.Proofs.Ytkihifodifkieaa.Ent := ⟨x.a, x.l, x.n⟩
def mkE (k : Int) (r : Go.Proofs.Ytkihifodifkieaa.Ent) : Ent := ⟨k, r.a, r.l, r.n⟩
def getR : List Ent → Int → Option Go.Proofs.Ytkihifodifkieaa.Ent
  | [], _ => none
  | x :: xs, k => if x.k = k then some x.val else getR xs k
def putR : List Ent → Int → Go.Proofs.Ytkihifodifkieaa.Ent → List Ent
  | [], k, r => [mkE k r]
  | x :: xs, k, r => if x.k < k then x :: putR xs k r else if x.k = k then mkE k r :: xs else mkE k r :: x :: xs
def delR : List Ent → Int → List Ent
  | [], _ => []
  | x :: xs, k => if x.k = k then xs else x :: delR xs k
-- the last entry whose key is at most k
def lastR : List Ent → Int → Option Go.Proofs.Ytkihifodifkieaa.Ent
  | [], _ => none
  | x :: xs, k => if x.k ≤ k then (match lastR xs k with | some r => some r | none => some x.val) else none

theorem Place.cons {x : Ent} {xs : List Ent} {b : Int} {i : Nat} (h : Place (x :: xs) b (i + 1)) : x.k < b ∧ Place xs b i := by
  obtain ⟨h1, h2, h3⟩ := h
  exact ⟨h2 x (by simp), by simpa using h1, fun y hy => h2 y (by simp [hy]), fun y hy => h3 y (by simpa using hy)⟩

theorem sorted_tail {x : Ent} {xs : List Ent} (h : Sorted (x :: xs)) : Sorted xs ∧ ∀ y ∈ xs, x.k < y.k := by
  have := List.pairwise_cons.1 h
  exact ⟨this.2, this.1⟩

theorem getR_none {xs : List Ent} {k : Int} (h : ∀ y ∈ xs, ¬ y.k = k) : getR xs k = none := by
  induction xs with
  | nil => rfl
  | cons x xs ih => rw [getR, if_neg (h x (by simp)), ih fun y hy => h y (by simp [hy])]

theorem place_get {xs : List Ent} {b : Int} (hs : Sorted xs) : ∀ {i : Nat}, Place xs b i → getR xs b = if FoundAt xs b i then some (xs[i]?.getD Ent.z).val else none := by
  induction xs with
  | nil => intro i _; simp [getR, FoundAt]
  | cons x xs ih =>
    obtain ⟨hs1, hs2⟩ := sorted_tail hs
    intro i h
    cases i with
    | zero =>
      have h3 := h.2.2
      by_cases hx : x.k = b
      · simp [getR, FoundAt, hx]
      · have : getR xs b = none := getR_none fun y hy he => by
          have := hs2 y hy
          have := h3 x (by simp)
          omega
        simp [getR, FoundAt, hx, this]
    | succ i =>
      obtain ⟨hk, hp⟩ := h.cons
      have hx : ¬ (x.k = b) := by omega
      have e : FoundAt (x :: xs) b (i + 1) = FoundAt xs b i := rfl
      rw [getR, if_neg hx, ih hs1 hp, e]
      rfl

theorem place_put {xs : List Ent} {b : Int} {r : Go.Proofs.Ytkihifodifkieaa.Ent} (hs : Sorted xs) : ∀ {i : Nat}, Place xs b i → putR xs b r = xs.take i ++ mkE b r :: xs.drop (if FoundAt xs b i then i + 1 else i) := by
  induction xs with
  | nil => intro i _; simp [putR, FoundAt]
  | cons x xs ih =>
    obtain ⟨hs1, hs2⟩ := sorted_tail hs
    intro i h
    cases i with
    | zero =>
      have h3 := h.2.2 x (by simp)
      by_cases hx : x.k = b
      · rw [putR, if_neg h3, if_pos hx]; simp [FoundAt, hx]
      · rw [putR, if_neg h3, if_neg hx]; simp [FoundAt, hx]
    | succ i =>
      obtain ⟨hk, hp⟩ := h.cons
      have e : FoundAt (x :: xs) b (i + 1) = FoundAt xs b i := rfl
      rw [putR, if_pos hk, ih hs1 hp, e]
      split <;> rfl

theorem place_del {xs : List Ent} {b : Int} (hs : Sorted xs) : ∀ {i : Nat}, Place xs b i → FoundAt xs b i = true → delR xs b = xs.take i ++ xs.drop (i + 1) := by
  induction xs with
  | nil => intro i _ h; simp [FoundAt] at h
  | cons x xs ih =>
    obtain ⟨hs1, hs2⟩ := sorted_tail hs
    intro i h hf
    cases i with
    | zero => simp [FoundAt] at hf; simp [delR, hf]
    | succ i =>
      obtain ⟨hk, hp⟩ := h.cons
      have hx : ¬ (x.k = b) := by omega
      rw [delR, if_neg hx, ih hs1 hp hf]
      rfl

theorem lastR_none {xs : List Ent} {b : Int} (h : ∀ y ∈ xs, b < y.k) : lastR xs b = none := by
  cases xs with
  | nil => rfl
  | cons x xs => rw [lastR, if_neg (by have := h x (by simp); omega)]

theorem place_last {xs : List Ent} {b : Int} (hs : Sorted xs) : ∀ {i : Nat}, Place xs b i → lastR xs b = if FoundAt xs b i then some (xs[i]?.getD Ent.z).val else if i = 0 then none else some (xs[i - 1]?.getD Ent.z).val := by
  induction xs with
  | nil => intro i h; have := h.1; simp at this; simp [lastR, FoundAt, this]
  | cons x xs ih =>
    obtain ⟨hs1, hs2⟩ := sorted_tail hs
    intro i h
    cases i with
    | zero =>
      have h3 := h.2.2 x (by simp)
      by_cases hx : x.k = b
      · have : lastR xs b = none := lastR_none fun y hy => by have := hs2 y hy; omega
        simp [lastR, FoundAt, hx, this]
      · rw [lastR, if_neg (by omega)]; simp [FoundAt, hx]
    | succ i =>
      obtain ⟨hk, hp⟩ := h.cons
      have e : FoundAt (x :: xs) b (i + 1) = FoundAt xs b i := rfl
      rw [lastR, if_pos (by omega), ih hs1 hp, e]
      cases hf : FoundAt xs b i with
      | true => simp
      | false =>
        cases i with
        | zero => simp
        | succ j => simp

theorem putR_mem {xs : List Ent} {k : Int} {r : Go.Proofs.Ytkihifodifkieaa.Ent} {y : Ent} (h : y ∈ putR xs k r) : y = mkE k r ∨ y ∈ xs := by
  induction xs with
  | nil => simp [putR] at h; exact .inl h
  | cons x xs ih =>
    rw [putR] at h
    split at h
    · rcases List.mem_cons.1 h with rfl | h
      · simp
      · rcases ih h with h | h <;> simp [h]
    · split at h
      · rcases List.mem_cons.1 h with rfl | h <;> simp [*]
      · rcases List.mem_cons.1 h with rfl | h
        · simp
        · exact .inr h
theorem delR_mem {xs : List Ent} {k : Int} {y : Ent} (h : y ∈ delR xs k) : y ∈ xs := by
  induction xs with
  | nil => simp [delR] at h
  | cons x xs ih =>
    rw [delR] at h
    split at h
    · simp [h]
    · rcases List.mem_cons.1 h with rfl | h
      · simp
      · simp [ih h]
theorem putR_sorted {xs : List Ent} {k : Int} {r : Go.Proofs.Ytkihifodifkieaa.Ent} (hs : Sorted xs) : Sorted (putR xs k r) := by
  induction xs with
  | nil => simp [putR, Sorted]
  | cons x xs ih =>
    obtain ⟨hs1, hs2⟩ := sorted_tail hs
    rw [putR]
    split
    · rename_i h
      refine List.pairwise_cons.2 ⟨fun y hy => ?_, ih hs1⟩
      rcases putR_mem hy with rfl | hy
      · exact h
      · exact hs2 y hy
    · rename_i h
      split
      · rename_i he
        refine List.pairwise_cons.2 ⟨fun y hy => ?_, hs1⟩
        have := hs2 y hy
        show k < y.k
        omega
      · rename_i he
        refine List.pairwise_cons.2 ⟨fun y hy => ?_, hs⟩
        show k < y.k
        rcases List.mem_cons.1 hy with rfl | hy
        · omega
        · have := hs2 y hy; omega
theorem delR_sorted {xs : List Ent} {k : Int} (hs : Sorted xs) : Sorted (delR xs k) := by
  induction xs with
  | nil => exact hs
  | cons x xs ih =>
    obtain ⟨hs1, hs2⟩ := sorted_tail hs
    rw [delR]
    split
    · exact hs1
    · exact List.pairwise_cons.2 ⟨fun y hy => hs2 y (delR_mem hy), ih hs1⟩
theorem val_mkE (k : Int) (r : Go.Proofs.Ytkihifodifkieaa.Ent) : (mkE k r).val = r := rfl
theorem getR_put {xs : List Ent} {k : Int} {r : Go.Proofs.Ytkihifodifkieaa.Ent} (hs : Sorted xs) (b : Int) : getR (putR xs k r) b = if k = b then some r else getR xs b := by
  induction xs with
  | nil => simp [putR, getR, mkE, Ent.val]
  | cons x xs ih =>
    obtain ⟨hs1, hs2⟩ := sorted_tail hs
    rw [putR]
    split
    · rename_i h
      rw [getR, getR, ih hs1]
      by_cases h1 : x.k = b
      · rw [if_pos h1, if_pos h1, if_neg (by omega)]
      · rw [if_neg h1, if_neg h1]
    · split
      · rename_i h he
        rw [getR, getR, val_mkE]
        show (if k = b then _ else _) = _
        by_cases h1 : k = b
        · rw [if_pos h1, if_pos h1]
        · rw [if_neg h1, if_neg h1, if_neg (by omega)]
      · rw [getR, val_mkE]
        rfl
theorem getR_del {xs : List Ent} {k : Int} (hs : Sorted xs) (b : Int) : getR (delR xs k) b = if k = b then none else getR xs b := by
  induction xs with
  | nil => simp [delR, getR]
  | cons x xs ih =>
    obtain ⟨hs1, hs2⟩ := sorted_tail hs
    rw [delR]
    split
    · rename_i he
      by_cases h1 : k = b
      · rw [if_pos h1]
        exact getR_none fun y hy h => by have := hs2 y hy; omega
      · rw [if_neg h1, getR, if_neg (by omega)]
    · rename_i he
      rw [getR, getR, ih hs1]
      by_cases h1 : x.k = b
      · rw [if_pos h1, if_pos h1, if_neg (by omega)]
      · rw [if_neg h1, if_neg h1]

end Go.Proofs.Ytkihifodifkieaa.R

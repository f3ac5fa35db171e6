import Derived.Test.YtkihifodifkieaaDel
namespace Go.Proofs.Ytkihifodifkieaa
open Go.RowKit

set_option maxHeartbeats 400000 in
theorem bsearch_nil (b m : Int) (bx : Nat) (w : World) :
    Calls Try.prog 66 #[.slice none 0 0, pfxV b m, .func (.func 67) #[] #[ptrV bx]] w fun r w' =>
      Below w.heap.size w w' ∧ r = .returned (.tuple #[.int .i64 0, .bool false]) := by
  go_enter Try.func66, Try.ntmps66
  go_wp2
  refine wp_loop_rounds 1 ?_
  rw [rounds_succ]
  go_wp2
  go_quiet (fail)
  go_wp2
  go_ret2
  exact ⟨(by repeat (first | exact Below.refl _ _ | refine below_drewN ?_ _ | refine Below.drew ?_ | refine Below.trans ?_ (Below.mono (by assumption) (by first | omega | (simp; omega) | simp)) | refine Below.alloc ?_ (by first | omega | (simp; omega) | simp) _ | refine Below.setCell ?_ (by first | omega | (simp; omega) | simp) _)), rfl⟩

-- the order of prefixes
abbrev klt (a l b m : Int) : Prop := a < b ∨ (a = b ∧ l < m)
theorem cmpP_neg (a l b m : Int) : cmpP a l b m < 0 ↔ klt a l b m := by
  unfold cmpP orI cmpI klt
  (repeat' split) <;> omega
theorem cmpP_zero (a l b m : Int) : cmpP a l b m = 0 ↔ a = b ∧ l = m := by
  unfold cmpP orI cmpI
  (repeat' split) <;> omega
def Ent.lt (x y : Ent) : Prop := klt x.a x.l y.a y.l
def Sorted (xs : List Ent) : Prop := xs.Pairwise Ent.lt
theorem klt_trans {a l b m c n : Int} (h : klt a l b m) (k : klt b m c n) : klt a l c n := by unfold klt at *; omega

-- where a prefix stands, or would stand
def Place (xs : List Ent) (b m : Int) (i : Nat) : Prop := i ≤ xs.length ∧ (∀ x ∈ xs.take i, klt x.a x.l b m) ∧ (∀ x ∈ xs.drop i, ¬ klt x.a x.l b m)
def FoundAt (xs : List Ent) (b m : Int) (i : Nat) : Bool := match xs[i]? with
  | some x => x.a == b && x.l == m
  | none => false

theorem getD_mem {xs : List Ent} {k : Nat} (h : k < xs.length) : xs[k]?.getD Ent.z = xs[k] := by simp [h]

theorem bsearch_row (xs : List Ent) (v : Value) (bx st : Nat) (b m : Int) (w : World) (hs : Sorted xs) (hn : xs.length ≤ 1000000) (hrow : RowAt w v xs)
    (hbx : w.cell? ⟨bx, 0, none⟩ = some (ptrV st)) (hst : w.cell? ⟨st, 0, none⟩ = some cmpV) :
    Calls Try.prog 66 #[v, pfxV b m, .func (.func 67) #[] #[ptrV bx]] w fun r w' =>
      Below w.heap.size w w' ∧ ∃ i : Nat, Place xs b m i ∧ r = .returned (.tuple #[.int .i64 i, .bool (FoundAt xs b m i)]) := by
  rcases hrow with ⟨rfl, rfl⟩ | ⟨g, cap, sp, rfl, hg, hl, hnc, hcm⟩
  · refine (bsearch_nil b m bx w).mono ?_
    rintro r w' ⟨hB, rfl⟩
    exact ⟨hB, 0, ⟨Nat.le_refl _, by simp, by simp⟩, rfl⟩
  · have hx : EntsAt w g xs := RowAt.ents (cap := cap) (.inr ⟨g, cap, sp, rfl, hg, hl, hnc, hcm⟩)
    have hp := List.pairwise_iff_getElem.1 hs
    refine (bsearch_any xs g cap bx st b m w hn hx hbx hst ?_).mono ?_
    · intro i j hij hj h
      rw [cmpP_neg] at h ⊢
      rcases Nat.lt_or_eq_of_le hij with h1 | rfl
      · rw [getD_mem hj] at h
        rw [getD_mem (by omega)]
        exact klt_trans (hp i j (by omega) hj h1) h
      · exact h
    · rintro r w' ⟨hB, i, hi, hlo, hhi, rfl⟩
      refine ⟨hB, i, ⟨hi, fun x hx => ?_, fun x hx => ?_⟩, ?_⟩
      · obtain ⟨k, hk, rfl⟩ := List.mem_iff_getElem.1 hx
        rw [List.length_take] at hk
        have := hlo k (by omega)
        rw [getD_mem (by omega), cmpP_neg] at this
        simpa using this
      · obtain ⟨k, hk, rfl⟩ := List.mem_iff_getElem.1 hx
        rw [List.length_drop] at hk
        have := hhi (i + k) (by omega) (by omega)
        rw [getD_mem (by omega)] at this
        intro h
        rw [← cmpP_neg] at h
        simp at h
        omega
      · have e : (decide (i < xs.length) && (cmpP (xs[i]?.getD Ent.z).a (xs[i]?.getD Ent.z).l b m == 0)) = FoundAt xs b m i := by
          unfold FoundAt
          by_cases hil : i < xs.length
          · rw [getD_mem hil, List.getElem?_eq_getElem hil]
            simp only [hil, decide_true, Bool.true_and]
            rw [Bool.eq_iff_iff]
            simp [cmpP_zero]
          · rw [List.getElem?_eq_none (by omega)]
            simp [hil]
        rw [e]

-- A store: its block holds the order and the row; the row lies in another block.
def StoreAt (w : World) (st : Nat) (v : Value) (xs : List Ent) : Prop :=
  w.heap[st]? = some (.cells #[cmpV, v] 102 (0, 0)) ∧ RowAt w v xs ∧ v.ownBlock ≠ some st ∧ Sorted xs ∧ xs.length ≤ 1000000

theorem StoreAt.c0 {w : World} {st : Nat} {v : Value} {xs : List Ent} (h : StoreAt w st v xs) : w.cell? ⟨st, 0, none⟩ = some cmpV := by simp [World.cell?, h.1]
theorem StoreAt.c1 {w : World} {st : Nat} {v : Value} {xs : List Ent} (h : StoreAt w st v xs) : w.cell? ⟨st, 1, none⟩ = some v := by simp [World.cell?, h.1]
theorem StoreAt.fz {w : World} {st : Nat} {v : Value} {xs : List Ent} (h : StoreAt w st v xs) (o : Nat) : w.frozen? ⟨st, o, none⟩ = false := by simp [World.frozen?, h.1]
theorem StoreAt.lt {w : World} {st : Nat} {v : Value} {xs : List Ent} (h : StoreAt w st v xs) : st < w.heap.size := (Array.getElem?_eq_some_iff.1 h.1).1
theorem RowAt.lt {w : World} {v : Value} {xs : List Ent} (h : RowAt w v xs) : ∀ g, v.ownBlock = some g → g < w.heap.size := by
  intro g hg
  rcases h with ⟨rfl, _⟩ | ⟨g', cap, sp, rfl, hg', _⟩
  · cases hg
  · cases hg; exact (Array.getElem?_eq_some_iff.1 hg').1
theorem StoreAt.later {w w' : World} {st : Nat} {v : Value} {xs : List Ent} (h : StoreAt w st v xs) (hB : Below w.heap.size w w') : StoreAt w' st v xs :=
  ⟨(hB.block st h.lt).trans h.1, h.2.1.kept fun g hg => hB.block g (h.2.1.lt g hg), h.2.2⟩

set_option maxHeartbeats 400000 in
theorem find_any (st : Nat) (v : Value) (xs : List Ent) (b m : Int) (w : World) (hS : StoreAt w st v xs) :
    Calls Try.prog 61 #[ptrV st, pfxV b m] w fun r w' =>
      Below w.heap.size w w' ∧ ∃ i : Nat, Place xs b m i ∧ r = .returned (.tuple #[.int .i64 i, .bool (FoundAt xs b m i)]) := by
  have c0 := hS.c0
  have c1 := hS.c1
  have hlt := hS.lt
  have h1 : st < w.heap.size + 1 + 1 := by omega
  have h2 : w.heap.size < w.heap.size + 1 + 1 := by omega
  go_enter Try.func61, Try.ntmps61
  go_wp2
  go_region_held3 (fun w' => w'.cell? ⟨st, 1, none⟩ = some v ∧ w'.cell? ⟨w.heap.size, 0, none⟩ = some (ptrV st) ∧ w'.cell? ⟨w.heap.size + 1, 0, none⟩ = some (.int .i64 b) ∧ w'.cell? ⟨w.heap.size + 1, 1, none⟩ = some (.int .i64 m)) (go_keep)
    (first
      | (go_at_call 66; refine (bsearch_row xs v w.heap.size st b m _ hS.2.2.2.1 hS.2.2.2.2 ?hr ?hb ?hs).mono ?_; (case hr => exact hS.2.1.kept fun g hg => by have := hS.2.1.lt g hg; exact (((Below.refl _ w).alloc (Nat.le_refl _) _).alloc (by simp) _).drew.block g this); (case hb => simp [go_sem]); (case hs => simp [go_sem, *]); rintro _ w' ⟨hb, i, hp, rfl⟩; have hc := (bcell hb).1))
  go_wp2
  go_ret2
  exact ⟨(by repeat (first | exact Below.refl _ _ | refine below_drewN ?_ _ | refine Below.drew ?_ | refine Below.trans ?_ (Below.mono (by assumption) (by first | omega | (simp; omega) | simp)) | refine Below.alloc ?_ (by first | omega | (simp; omega) | simp) _ | refine Below.setCell ?_ (by first | omega | (simp; omega) | simp) _)), i, hp, rfl⟩

-- What a list of entries says of a prefix; what it is behind a change.
def getE : List Ent → Int → Int → Option Int
  | [], _, _ => none
  | x :: xs, a, l => if x.a = a ∧ x.l = l then some x.n else getE xs a l
def putE : List Ent → Int → Int → Int → List Ent
  | [], a, l, n => [⟨a, l, n⟩]
  | x :: xs, a, l, n => if klt x.a x.l a l then x :: putE xs a l n else if x.a = a ∧ x.l = l then ⟨a, l, n⟩ :: xs else ⟨a, l, n⟩ :: x :: xs
def delE : List Ent → Int → Int → List Ent
  | [], _, _ => []
  | x :: xs, a, l => if x.a = a ∧ x.l = l then xs else x :: delE xs a l

theorem Place.cons {x : Ent} {xs : List Ent} {b m : Int} {i : Nat} (h : Place (x :: xs) b m (i + 1)) : klt x.a x.l b m ∧ Place xs b m i := by
  obtain ⟨h1, h2, h3⟩ := h
  exact ⟨h2 x (by simp), by simpa using h1, fun y hy => h2 y (by simp [hy]), fun y hy => h3 y (by simpa using hy)⟩

theorem sorted_tail {x : Ent} {xs : List Ent} (h : Sorted (x :: xs)) : Sorted xs ∧ ∀ y ∈ xs, klt x.a x.l y.a y.l := by
  have := List.pairwise_cons.1 h
  exact ⟨this.2, this.1⟩

theorem getE_none {xs : List Ent} {a l : Int} (h : ∀ y ∈ xs, ¬ (y.a = a ∧ y.l = l)) : getE xs a l = none := by
  induction xs with
  | nil => rfl
  | cons x xs ih => rw [getE, if_neg (h x (by simp)), ih fun y hy => h y (by simp [hy])]

theorem place_get {xs : List Ent} {b m : Int} (hs : Sorted xs) : ∀ {i : Nat}, Place xs b m i → getE xs b m = if FoundAt xs b m i then some (xs[i]?.getD Ent.z).n else none := by
  induction xs with
  | nil => intro i _; simp [getE, FoundAt]
  | cons x xs ih =>
    obtain ⟨hs1, hs2⟩ := sorted_tail hs
    intro i h
    cases i with
    | zero =>
      have h3 := h.2.2
      by_cases hx : x.a = b ∧ x.l = m
      · simp [getE, FoundAt, hx]
      · have : getE xs b m = none := getE_none fun y hy he => by
          have := hs2 y hy
          have := h3 x (by simp)
          unfold klt at *
          omega
        simp [getE, FoundAt, hx, this]
    | succ i =>
      obtain ⟨hk, hp⟩ := h.cons
      have hx : ¬ (x.a = b ∧ x.l = m) := by unfold klt at hk; omega
      have e : FoundAt (x :: xs) b m (i + 1) = FoundAt xs b m i := rfl
      rw [getE, if_neg hx, ih hs1 hp, e]
      rfl

theorem place_put {xs : List Ent} {b m n : Int} (hs : Sorted xs) : ∀ {i : Nat}, Place xs b m i → putE xs b m n = xs.take i ++ ⟨b, m, n⟩ :: xs.drop (if FoundAt xs b m i then i + 1 else i) := by
  induction xs with
  | nil => intro i _; simp [putE, FoundAt]
  | cons x xs ih =>
    obtain ⟨hs1, hs2⟩ := sorted_tail hs
    intro i h
    cases i with
    | zero =>
      have h3 := h.2.2 x (by simp)
      by_cases hx : x.a = b ∧ x.l = m
      · rw [putE, if_neg h3, if_pos hx]; simp [FoundAt, hx]
      · rw [putE, if_neg h3, if_neg hx]; simp [FoundAt, hx]
    | succ i =>
      obtain ⟨hk, hp⟩ := h.cons
      have e : FoundAt (x :: xs) b m (i + 1) = FoundAt xs b m i := rfl
      rw [putE, if_pos hk, ih hs1 hp, e]
      split <;> rfl

theorem place_del {xs : List Ent} {b m : Int} (hs : Sorted xs) : ∀ {i : Nat}, Place xs b m i → FoundAt xs b m i = true → delE xs b m = xs.take i ++ xs.drop (i + 1) := by
  induction xs with
  | nil => intro i _ h; simp [FoundAt] at h
  | cons x xs ih =>
    obtain ⟨hs1, hs2⟩ := sorted_tail hs
    intro i h hf
    cases i with
    | zero => simp [FoundAt] at hf; simp [delE, hf]
    | succ i =>
      obtain ⟨hk, hp⟩ := h.cons
      have hx : ¬ (x.a = b ∧ x.l = m) := by unfold klt at hk; omega
      rw [delE, if_neg hx, ih hs1 hp hf]
      rfl

theorem putE_mem {xs : List Ent} {a l n : Int} {y : Ent} (h : y ∈ putE xs a l n) : y = ⟨a, l, n⟩ ∨ y ∈ xs := by
  induction xs with
  | nil => simp [putE] at h; exact .inl h
  | cons x xs ih =>
    rw [putE] at h
    split at h
    · rcases List.mem_cons.1 h with rfl | h
      · simp
      · rcases ih h with h | h <;> simp [h]
    · split at h
      · rcases List.mem_cons.1 h with rfl | h <;> simp [*]
      · rcases List.mem_cons.1 h with rfl | h
        · simp
        · exact .inr h
theorem delE_mem {xs : List Ent} {a l : Int} {y : Ent} (h : y ∈ delE xs a l) : y ∈ xs := by
  induction xs with
  | nil => simp [delE] at h
  | cons x xs ih =>
    rw [delE] at h
    split at h
    · simp [h]
    · rcases List.mem_cons.1 h with rfl | h
      · simp
      · simp [ih h]
theorem putE_sorted {xs : List Ent} {a l n : Int} (hs : Sorted xs) : Sorted (putE xs a l n) := by
  induction xs with
  | nil => simp [putE, Sorted]
  | cons x xs ih =>
    obtain ⟨hs1, hs2⟩ := sorted_tail hs
    rw [putE]
    split
    · rename_i h
      refine List.pairwise_cons.2 ⟨fun y hy => ?_, ih hs1⟩
      rcases putE_mem hy with rfl | hy
      · exact h
      · exact hs2 y hy
    · rename_i h
      split
      · rename_i he
        refine List.pairwise_cons.2 ⟨fun y hy => ?_, hs1⟩
        have := hs2 y hy
        show klt a l y.a y.l
        rw [← he.1, ← he.2]; exact this
      · rename_i he
        refine List.pairwise_cons.2 ⟨fun y hy => ?_, hs⟩
        have hx : klt a l x.a x.l := by unfold klt at *; omega
        rcases List.mem_cons.1 hy with rfl | hy
        · exact hx
        · exact klt_trans hx (hs2 y hy)
theorem delE_sorted {xs : List Ent} {a l : Int} (hs : Sorted xs) : Sorted (delE xs a l) := by
  induction xs with
  | nil => exact hs
  | cons x xs ih =>
    obtain ⟨hs1, hs2⟩ := sorted_tail hs
    rw [delE]
    split
    · exact hs1
    · exact List.pairwise_cons.2 ⟨fun y hy => hs2 y (delE_mem hy), ih hs1⟩
theorem getE_put {xs : List Ent} {a l n : Int} (hs : Sorted xs) (b m : Int) : getE (putE xs a l n) b m = if a = b ∧ l = m then some n else getE xs b m := by
  induction xs with
  | nil => simp [putE, getE]
  | cons x xs ih =>
    obtain ⟨hs1, hs2⟩ := sorted_tail hs
    rw [putE]
    split
    · rename_i h
      rw [getE, getE, ih hs1]
      unfold klt at h
      by_cases h1 : x.a = b ∧ x.l = m
      · rw [if_pos h1, if_pos h1, if_neg (by omega)]
      · rw [if_neg h1, if_neg h1]
    · split
      · rename_i h he
        rw [getE, getE]
        by_cases h1 : a = b ∧ l = m
        · simp only [h1, and_self, if_true]
        · simp only [h1, if_false]
          rw [if_neg (by omega)]
      · rw [getE]
theorem getE_del {xs : List Ent} {a l : Int} (hs : Sorted xs) (b m : Int) : getE (delE xs a l) b m = if a = b ∧ l = m then none else getE xs b m := by
  induction xs with
  | nil => simp [delE, getE]
  | cons x xs ih =>
    obtain ⟨hs1, hs2⟩ := sorted_tail hs
    rw [delE]
    split
    · rename_i he
      by_cases h1 : a = b ∧ l = m
      · rw [if_pos h1]
        exact getE_none fun y hy h => by have := hs2 y hy; unfold klt at this; omega
      · rw [if_neg h1, getE, if_neg (by omega)]
    · rename_i he
      rw [getE, getE, ih hs1]
      by_cases h1 : x.a = b ∧ x.l = m
      · rw [if_pos h1, if_pos h1, if_neg (by omega)]
      · rw [if_neg h1, if_neg h1]

end Go.Proofs.Ytkihifodifkieaa

import Derived.Test.YtkihifodifkieaaRSto
import Derived.Test.YtkihifodifkieaaLse
namespace Go.Proofs.Ytkihifodifkieaa.R
open Go.RowKit

abbrev zR : Obj := .cells #[.int .i64 0, .int .i64 0, .int .i64 0] 90
def rteO (o : Option Go.Proofs.Ytkihifodifkieaa.Ent) : Value := match o with
  | some r => rteV r.a r.l r.n
  | none => rteV 0 0 0
theorem rteO_some (x : Go.Proofs.Ytkihifodifkieaa.Ent) : rteO (some x) = rteV x.a x.l x.n := rfl

set_option maxHeartbeats 400000 in
theorem rLast_any (st : Nat) (v : Value) (xs : List Ent) (b : Int) (w : World) (hS : StoreAt w st v xs) :
    Calls Try.prog 57 #[ptrV st, .int .i64 b] w fun r w' => Below w.heap.size w w' ∧ r = .returned (.tuple #[rteO (lastR xs b), .bool (lastR xs b).isSome]) := by
  have hB1 : Below w.heap.size w (w.alloc zR) := (Below.refl _ w).alloc (Nat.le_refl _) _
  go_enter Try.func57, Try.ntmps57
  go_wp2_with fail
  refine (find_any st v xs b _ (hS.later hB1)).mono ?_
  rintro r w1 ⟨hB, i, hp, rfl⟩
  have hg := place_last hS.2.2.2.1 hp
  have hB2 := hB1.trans (hB.mono (by simp))
  have hS1 := hS.later hB2
  have c1 := hS1.c1
  have hwl : w.heap.size < w1.heap.size := by have := hB.size; simp at this; omega
  have r0 : w1.cell? ⟨w.heap.size, 0, none⟩ = some (.int .i64 0) := (hB.cell (p := ⟨w.heap.size, 0, none⟩) (by simp)).trans (by simp [go_sem])
  have r1 : w1.cell? ⟨w.heap.size, 1, none⟩ = some (.int .i64 0) := (hB.cell (p := ⟨w.heap.size, 1, none⟩) (by simp)).trans (by simp [go_sem])
  have r2 : w1.cell? ⟨w.heap.size, 2, none⟩ = some (.int .i64 0) := (hB.cell (p := ⟨w.heap.size, 2, none⟩) (by simp)).trans (by simp [go_sem])
  have rf : ∀ o, w1.frozen? ⟨w.heap.size, o, none⟩ = false := fun o => (hB.frozen (p := ⟨w.heap.size, o, none⟩) (by simp)).trans (by simp [go_sem])
  have row : ∀ (j : Nat), j < xs.length → (∃ g cap, v = .slice (some ⟨g, 0, none⟩) xs.length cap ∧ EntsAt w1 g xs) := fun j hj => by
    rcases hS1.2.1 with ⟨rfl, rfl⟩ | ⟨g, cap, sp, rfl, hgg, hl, hnc, hcm⟩
    · simp at hj
    · exact ⟨g, cap, rfl, RowAt.ents (cap := cap) (.inr ⟨g, cap, sp, rfl, hgg, hl, hnc, hcm⟩)⟩
  have hpi := hp.1
  have hlim := hS.2.2.2.2
  cases hf : FoundAt xs b i with
  | true =>
    rw [hf] at hg
    simp only [if_true] at hg
    have HG := hide hg
    have hil : i < xs.length := by
      unfold FoundAt at hf
      rcases Nat.lt_or_ge i xs.length with h | h
      · exact h
      · rw [List.getElem?_eq_none h] at hf; cases hf
    obtain ⟨g, cap, rfl, hx⟩ := row i hil
    obtain ⟨x0, x1, x2, x3⟩ := hx i hil
    have i0 : (0 : Int) ≤ (i : Int) := by omega
    have i1 : (i : Int) < (xs.length : Int) := by omega
    have i2 : ¬ ((i : Int) < 0) := by omega
    clear hg hf hp hS1 hx hS hB row
    generalize xs[i]?.getD Ent.z = y at *
    go_wp2
    exact bodyPost_ret (v := .tuple #[rteV y.a y.l y.n, .bool true]) (by simp [results, Try.results57, go_sem, *]) rfl ⟨(by repeat (first | exact Below.refl _ _ | refine below_drewN ?_ _ | refine Below.drew ?_ | refine Below.trans ?_ (Below.mono (by assumption) (by first | omega | (simp; omega) | simp)) | refine Below.alloc ?_ (by first | omega | (simp; omega) | simp) _ | refine Below.setCell ?_ (by first | omega | (simp; omega) | simp) _)), by rw [HG.out]; rfl⟩
  | false =>
    rw [hf] at hg
    cases i with
    | zero =>
      simp only [Bool.false_eq_true, if_false, if_true] at hg
      have HG := hide hg
      clear hg hf hp hS1 hS hB row c1
      go_wp2
      exact bodyPost_ret (v := .tuple #[rteV 0 0 0, .bool false]) (by simp [results, Try.results57, go_sem, *]) rfl ⟨(by repeat (first | exact Below.refl _ _ | refine below_drewN ?_ _ | refine Below.drew ?_ | refine Below.trans ?_ (Below.mono (by assumption) (by first | omega | (simp; omega) | simp)) | refine Below.alloc ?_ (by first | omega | (simp; omega) | simp) _ | refine Below.setCell ?_ (by first | omega | (simp; omega) | simp) _)), by rw [HG.out]; rfl⟩
    | succ i =>
      simp only [Bool.false_eq_true, if_false, Nat.add_one_ne_zero, Nat.add_sub_cancel] at hg
      have HG := hide hg
      have hil : i < xs.length := by omega
      obtain ⟨g, cap, rfl, hx⟩ := row i hil
      obtain ⟨x0, x1, x2, x3⟩ := hx i hil
      have i0 : (0 : Int) ≤ (i : Int) := by omega
      have i1 : (i : Int) < (xs.length : Int) := by omega
      have i2 : ¬ ((i : Int) < 0) := by omega
      have i3 : IntKind.i64.wrap (((i + 1 : Nat) : Int) - 1) = (i : Int) := by rw [IntKind.wrap_i64]; omega
      clear hg hf hp hS1 hx hS hB row hpi
      generalize xs[i]?.getD Ent.z = y at *
      go_wp2
      exact bodyPost_ret (v := .tuple #[rteV y.a y.l y.n, .bool true]) (by simp [results, Try.results57, go_sem, *]) rfl ⟨(by repeat (first | exact Below.refl _ _ | refine below_drewN ?_ _ | refine Below.drew ?_ | refine Below.trans ?_ (Below.mono (by assumption) (by first | omega | (simp; omega) | simp)) | refine Below.alloc ?_ (by first | omega | (simp; omega) | simp) _ | refine Below.setCell ?_ (by first | omega | (simp; omega) | simp) _)), by rw [HG.out]; rfl⟩


set_option maxHeartbeats 400000 in
theorem rLen_any (st : Nat) (v : Value) (xs : List Ent) (w : World) (hS : StoreAt w st v xs) :
    Calls Try.prog 115 #[ptrV st] w fun r w' => w' = w ∧ r = .returned (.int .i64 xs.length) := by
  have c1 := hS.c1
  rcases hS.2.1 with ⟨rfl, rfl⟩ | ⟨g, cap, sp, rfl, hgg, hl, hnc, hcm⟩
  · clear hS
    go_enter Try.func115, Try.ntmps115
    go_wp2
    go_ret
    exact ⟨rfl, rfl⟩
  · clear hS hgg hl
    go_enter Try.func115, Try.ntmps115
    go_wp2
    go_ret
    exact ⟨rfl, rfl⟩

theorem found_lt {xs : List Ent} {b : Int} {i : Nat} (hf : FoundAt xs b i = true) : i < xs.length := by
  unfold FoundAt at hf
  rcases Nat.lt_or_ge i xs.length with h | h
  · exact h
  · rw [List.getElem?_eq_none h] at hf; cases hf

theorem found_key {xs : List Ent} {b : Int} {i : Nat} (hf : FoundAt xs b i = true) : (xs[i]?.getD Ent.z).k = b := by
  have h := found_lt hf
  unfold FoundAt at hf
  rw [List.getElem?_eq_getElem h] at hf ⊢
  simpa using hf

theorem entCells_set (xs : List Ent) (r : Go.Proofs.Ytkihifodifkieaa.Ent) : ∀ (i : Nat), i < xs.length → (((entCells xs).set (i * 4 + 1) (.int .i64 r.a)).set (i * 4 + 2) (.int .i64 r.l)).set (i * 4 + 3) (.int .i64 r.n) = entCells (xs.take i ++ mkE (xs[i]?.getD Ent.z).k r :: xs.drop (i + 1)) := by
  induction xs with
  | nil => intro i h; simp at h
  | cons x xs ih =>
    intro i h
    cases i with
    | zero => simp [entCells, Ent.cells, mkE]
    | succ i =>
      have := ih i (by simpa using h)
      rw [entCells_cons, show (i + 1) * 4 + 1 = (i * 4 + 1) + 1 + 1 + 1 + 1 by omega, show (i + 1) * 4 + 2 = (i * 4 + 2) + 1 + 1 + 1 + 1 by omega, show (i + 1) * 4 + 3 = (i * 4 + 3) + 1 + 1 + 1 + 1 by omega]
      simp only [Ent.cells, List.cons_append, List.nil_append, List.set_cons_succ, this]
      simp [entCells, Ent.cells, mkE]

-- the blocks of a store
def StoreF (w : World) (st : Nat) (xs : List Ent) (F : List Nat) : Prop := ∃ v, StoreAt w st v xs ∧ F = st :: v.ownBlock.toList
theorem StoreF.lt {w : World} {st : Nat} {xs : List Ent} {F : List Nat} (h : StoreF w st xs F) : ∀ k ∈ F, k < w.heap.size := by
  obtain ⟨v, hS, rfl⟩ := h
  intro k hk
  rcases List.mem_cons.1 hk with rfl | hk
  · exact hS.lt
  · exact hS.2.1.lt k (by simpa using hk)
theorem StoreF.kept {w w' : World} {st : Nat} {xs : List Ent} {F : List Nat} (h : StoreF w st xs F) (hk : ∀ k ∈ F, w'.heap[k]? = w.heap[k]?) : StoreF w' st xs F := by
  obtain ⟨v, hS, rfl⟩ := h
  exact ⟨v, ⟨(hk st (by simp)).trans hS.1, hS.2.1.kept fun g hg => hk g (by simp [hg]), hS.2.2⟩, rfl⟩
theorem StoreF.later {w w' : World} {st : Nat} {xs : List Ent} {F : List Nat} (h : StoreF w st xs F) (hB : Below w.heap.size w w') : StoreF w' st xs F := h.kept fun k hk => hB.block k (h.lt k hk)
theorem StoreF.cells {w : World} {st : Nat} {xs : List Ent} {F : List Nat} (h : StoreF w st xs F) : ∀ k ∈ F, ∃ o, w.heap[k]? = some o ∧ o.isCells = true := by
  obtain ⟨v, hS, rfl⟩ := h
  intro k hk
  rcases List.mem_cons.1 hk with rfl | hk
  · exact ⟨_, hS.1, rfl⟩
  · rcases hS.2.1 with ⟨rfl, _⟩ | ⟨g, cap, sp, rfl, hg, _⟩
    · simp [Value.ownBlock] at hk
    · simp [Value.ownBlock] at hk; subst hk; exact ⟨_, hg, rfl⟩
theorem StoreF.sorted {w : World} {st : Nat} {xs : List Ent} {F : List Nat} (h : StoreF w st xs F) : Sorted xs := by
  obtain ⟨v, hS, _⟩ := h
  exact hS.2.2.2.1

end Go.Proofs.Ytkihifodifkieaa.R

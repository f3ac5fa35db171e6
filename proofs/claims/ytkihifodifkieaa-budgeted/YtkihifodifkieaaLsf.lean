import Derived.Test.YtkihifodifkieaaRng
import Derived.Laws.EntriesVeiled
namespace Go.Proofs.Ytkihifodifkieaa
open Go.RowKit Go.Shelf

-- the blocks of F are nobody's own and lie as they lay
def Safe (Own : World → Nat → Prop) (F : List Nat) (W W' : World) : Prop := ∀ k ∈ F, ¬ Own W' k ∧ W'.heap[k]? = W.heap[k]?
theorem Safe.soft {Own : World → Nat → Prop} {F : List Nat} {B : Nat} {W W' W'' : World} (h : Safe Own F W W') (hF : ∀ k ∈ F, ∃ o, W.heap[k]? = some o ∧ o.isCells = true) (hs : Soft B W' W'') (hO : ∀ k, Own W'' k → Own W' k) : Safe Own F W W'' := fun k hk => by
  obtain ⟨h1, h2⟩ := h k hk
  obtain ⟨o, ho, hc⟩ := hF k hk
  exact ⟨fun h3 => h1 (hO k h3), (hs.block k o (h2.trans ho) (.inr hc)).trans ho.symm⟩
theorem Safe.own {Own : World → Nat → Prop} {F : List Nat} {W W' W'' : World} (h : Safe Own F W W') (hF : ∀ k ∈ F, ∃ o, W.heap[k]? = some o ∧ o.isCells = true) (hs : KOwn Own W' W'') : Safe Own F W W'' := fun k hk => by
  obtain ⟨h1, h2⟩ := h k hk
  obtain ⟨o, ho, hc⟩ := hF k hk
  obtain ⟨h3, h4⟩ := hs.2 k o (h2.trans ho) hc h1
  exact ⟨h4, h3.trans ho.symm⟩
theorem StoreF.cells {w : World} {st : Nat} {xs : List Ent} {F : List Nat} (h : StoreF w st xs F) : ∀ k ∈ F, ∃ o, w.heap[k]? = some o ∧ o.isCells = true := by
  obtain ⟨v, hS, rfl⟩ := h
  intro k hk
  rcases List.mem_cons.1 hk with rfl | hk
  · exact ⟨_, hS.1, rfl⟩
  · have hk' : v.ownBlock = some k := by simpa using hk
    rcases hS.2.1 with ⟨rfl, _⟩ | ⟨g, cap, sp, rfl, hg, _⟩
    · cases hk'
    · cases hk'; exact ⟨_, hg, rfl⟩

def fromE (xs : List Ent) (b m : Int) : List Ent := xs.filter fun x => !decide (klt x.a x.l b m)
theorem place_from {xs : List Ent} {b m : Int} : ∀ {i : Nat}, Place xs b m i → fromE xs b m = xs.drop i := by
  induction xs with
  | nil => intro i _; simp [fromE]
  | cons x xs ih =>
    intro i h
    cases i with
    | zero =>
      have h3 := h.2.2
      rw [List.drop_zero]
      exact List.filter_eq_self.2 fun y hy => by have := h3 y (by simpa using hy); simp only [this, decide_false, Bool.not_false]
    | succ i =>
      obtain ⟨hk, hp⟩ := h.cons
      rw [List.drop_succ_cons, ← ih hp]
      unfold fromE
      rw [List.filter_cons_of_neg (by simp [hk])]

-- A List: its block holds the store.
def ListF (w : World) (lp : Nat) (xs : List Ent) (F : List Nat) : Prop := ∃ st Fs, w.heap[lp]? = some (.cells #[ptrV st] 81 (0, 0)) ∧ StoreF w st xs Fs ∧ lp ∉ Fs ∧ F = lp :: Fs
theorem ListF.lt {w : World} {lp : Nat} {xs : List Ent} {F : List Nat} (h : ListF w lp xs F) : ∀ k ∈ F, k < w.heap.size := by
  obtain ⟨st, Fs, h1, h2, _, rfl⟩ := h
  intro k hk
  rcases List.mem_cons.1 hk with rfl | hk
  · exact (Array.getElem?_eq_some_iff.1 h1).1
  · exact h2.lt k hk
theorem ListF.cells {w : World} {lp : Nat} {xs : List Ent} {F : List Nat} (h : ListF w lp xs F) : ∀ k ∈ F, ∃ o, w.heap[k]? = some o ∧ o.isCells = true := by
  obtain ⟨st, Fs, h1, h2, _, rfl⟩ := h
  intro k hk
  rcases List.mem_cons.1 hk with rfl | hk
  · exact ⟨_, h1, rfl⟩
  · exact h2.cells k hk
theorem ListF.kept {w w' : World} {lp : Nat} {xs : List Ent} {F : List Nat} (h : ListF w lp xs F) (hk : ∀ k ∈ F, w'.heap[k]? = w.heap[k]?) : ListF w' lp xs F := by
  obtain ⟨st, Fs, h1, h2, h3, rfl⟩ := h
  exact ⟨st, Fs, (hk lp (by simp)).trans h1, h2.kept fun k hk' => hk k (by simp [hk']), h3, rfl⟩
theorem ListF.later {w w' : World} {lp : Nat} {xs : List Ent} {F : List Nat} (h : ListF w lp xs F) (hB : Below w.heap.size w w') : ListF w' lp xs F := h.kept fun k hk => hB.block k (h.lt k hk)


end Go.Proofs.Ytkihifodifkieaa

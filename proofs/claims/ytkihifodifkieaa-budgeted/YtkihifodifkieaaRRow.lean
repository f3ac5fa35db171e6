import Derived.Test.YtkihifodifkieaaRFnd
import Derived.Test.YtkihifodifkieaaDel
namespace Go.Proofs.Ytkihifodifkieaa.R
open Go.RowKit

-- THE CELLS OF ENTRIES
def Ent.cells (x : Ent) : List Value := [.int .i64 x.k, .int .i64 x.a, .int .i64 x.l, .int .i64 x.n]
def entCells (xs : List Ent) : List Value := xs.flatMap Ent.cells
theorem entCells_nil : entCells [] = [] := rfl
theorem entCells_cons (x : Ent) (xs : List Ent) : entCells (x :: xs) = x.cells ++ entCells xs := rfl
theorem entCells_append (xs ys : List Ent) : entCells (xs ++ ys) = entCells xs ++ entCells ys := by simp [entCells]
theorem entCells_length (xs : List Ent) : (entCells xs).length = xs.length * 4 := by
  induction xs with
  | nil => rfl
  | cons x xs ih => rw [entCells_cons, List.length_append, ih]; simp [Ent.cells]; omega
theorem entCells_take (xs : List Ent) (i : Nat) : (entCells xs).take (i * 4) = entCells (xs.take i) := by
  induction i generalizing xs with
  | zero => simp [entCells]
  | succ i ih =>
    cases xs with
    | nil => simp [entCells]
    | cons x xs => rw [List.take_succ_cons, entCells_cons, entCells_cons, ← ih xs, show (i + 1) * 4 = i * 4 + 1 + 1 + 1 + 1 by omega]; rfl
theorem entCells_drop (xs : List Ent) (i : Nat) : (entCells xs).drop (i * 4) = entCells (xs.drop i) := by
  induction i generalizing xs with
  | zero => simp
  | succ i ih =>
    cases xs with
    | nil => simp [entCells]
    | cons x xs => rw [List.drop_succ_cons, entCells_cons, ← ih xs, show (i + 1) * 4 = i * 4 + 1 + 1 + 1 + 1 by omega]; rfl
theorem entCells_one (xs : List Ent) : ∀ v ∈ entCells xs, v.oneCell' = true := by
  intro v hv
  obtain ⟨x, _, hx⟩ := List.mem_flatMap.1 hv
  simp [Ent.cells] at hx
  rcases hx with rfl | rfl | rfl | rfl <;> rfl
theorem entCells_get (xs : List Ent) (i : Nat) (h : i < xs.length) : (entCells xs)[i * 4]? = some (.int .i64 (xs[i]?.getD Ent.z).k) ∧ (entCells xs)[i * 4 + 1]? = some (.int .i64 (xs[i]?.getD Ent.z).a) ∧ (entCells xs)[i * 4 + 2]? = some (.int .i64 (xs[i]?.getD Ent.z).l) ∧ (entCells xs)[i * 4 + 3]? = some (.int .i64 (xs[i]?.getD Ent.z).n) := by
  induction i generalizing xs with
  | zero =>
    cases xs with
    | nil => simp at h
    | cons x xs => exact ⟨rfl, rfl, rfl, rfl⟩
  | succ i ih =>
    cases xs with
    | nil => simp at h
    | cons x xs =>
      have := ih xs (by simpa using h)
      rw [entCells_cons, show (i + 1) * 4 = i * 4 + 1 + 1 + 1 + 1 by omega]
      simpa [Ent.cells] using this

-- A row of entries: nil, or a block that holds them, and spare cells behind them.
def RowAt (w : World) (v : Value) (xs : List Ent) : Prop :=
  (v = .slice none 0 0 ∧ xs = []) ∨
  ∃ g cap sp, v = .slice (some ⟨g, 0, none⟩) xs.length cap ∧ w.heap[g]? = some (.cells (entCells xs ++ sp).toArray 120 (0, 0)) ∧ (entCells xs ++ sp).length = cap * 4 ∧ xs.length ≤ cap ∧ cap ≤ maxLen

theorem RowAt.ents {w : World} {g n cap : Nat} {xs : List Ent} (h : RowAt w (.slice (some ⟨g, 0, none⟩) n cap) xs) : EntsAt w g xs := by
  rcases h with ⟨h, _⟩ | ⟨g', cap', sp, hv, hg, _, _, _⟩
  · cases h
  · cases hv
    intro i hi
    obtain ⟨h0, h1, h2, h3⟩ := entCells_get xs i hi
    have hl := entCells_length xs
    simp only [World.cell?, hg]
    refine ⟨?_, ?_, ?_, ?_⟩ <;> simp only [Option.isSome_none, List.getElem?_toArray, Bool.false_eq_true, if_false] <;> rw [List.getElem?_append_left (by omega)] <;> assumption
theorem RowAt.len {w : World} {a : Option Addr} {n cap : Nat} {xs : List Ent} (h : RowAt w (.slice a n cap) xs) : n = xs.length := by
  rcases h with ⟨h, rfl⟩ | ⟨g', cap', sp, hv, _⟩
  · cases h; rfl
  · cases hv; rfl
theorem RowAt.kept {w w' : World} {v : Value} {xs : List Ent} (h : RowAt w v xs) (hk : ∀ g, v.ownBlock = some g → w'.heap[g]? = w.heap[g]?) : RowAt w' v xs := by
  rcases h with h | ⟨g, cap, sp, rfl, hg, r⟩
  · exact .inl h
  · exact .inr ⟨g, cap, sp, rfl, (hk g rfl).trans hg, r⟩


end Go.Proofs.Ytkihifodifkieaa.R

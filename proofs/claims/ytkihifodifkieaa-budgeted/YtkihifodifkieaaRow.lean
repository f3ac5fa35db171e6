import Derived.Test.YtkihifodifkieaaFnd
import Derived.Lib.AppendZeros
import Derived.Lib.Overlaps
import Derived.Laws.Externs
import Derived.Laws.CopyRow
import Derived.Deep.RegionLaw
namespace Go.Proofs.Ytkihifodifkieaa
open Go.RowKit

-- THE CELLS OF ENTRIES
def Ent.cells (x : Ent) : List Value := [.int .i64 x.a, .int .i64 x.l, .int .i64 x.n]
def entCells (xs : List Ent) : List Value := xs.flatMap Ent.cells
theorem entCells_nil : entCells [] = [] := rfl
theorem entCells_cons (x : Ent) (xs : List Ent) : entCells (x :: xs) = x.cells ++ entCells xs := rfl
theorem entCells_append (xs ys : List Ent) : entCells (xs ++ ys) = entCells xs ++ entCells ys := by simp [entCells]
theorem entCells_length (xs : List Ent) : (entCells xs).length = xs.length * 3 := by
  induction xs with
  | nil => rfl
  | cons x xs ih => rw [entCells_cons, List.length_append, ih]; simp [Ent.cells]; omega
theorem entCells_take (xs : List Ent) (i : Nat) : (entCells xs).take (i * 3) = entCells (xs.take i) := by
  induction i generalizing xs with
  | zero => simp [entCells]
  | succ i ih =>
    cases xs with
    | nil => simp [entCells]
    | cons x xs => rw [List.take_succ_cons, entCells_cons, entCells_cons, ← ih xs, show (i + 1) * 3 = i * 3 + 1 + 1 + 1 by omega]; rfl
theorem entCells_drop (xs : List Ent) (i : Nat) : (entCells xs).drop (i * 3) = entCells (xs.drop i) := by
  induction i generalizing xs with
  | zero => simp
  | succ i ih =>
    cases xs with
    | nil => simp [entCells]
    | cons x xs => rw [List.drop_succ_cons, entCells_cons, ← ih xs, show (i + 1) * 3 = i * 3 + 1 + 1 + 1 by omega]; rfl
theorem entCells_one (xs : List Ent) : ∀ v ∈ entCells xs, v.oneCell' = true := by
  intro v hv
  obtain ⟨x, _, hx⟩ := List.mem_flatMap.1 hv
  simp [Ent.cells] at hx
  rcases hx with rfl | rfl | rfl <;> rfl
theorem entCells_get (xs : List Ent) (i : Nat) (h : i < xs.length) : (entCells xs)[i * 3]? = some (.int .i64 (xs[i]?.getD Ent.z).a) ∧ (entCells xs)[i * 3 + 1]? = some (.int .i64 (xs[i]?.getD Ent.z).l) ∧ (entCells xs)[i * 3 + 2]? = some (.int .i64 (xs[i]?.getD Ent.z).n) := by
  induction i generalizing xs with
  | zero =>
    cases xs with
    | nil => simp at h
    | cons x xs => exact ⟨rfl, rfl, rfl⟩
  | succ i ih =>
    cases xs with
    | nil => simp at h
    | cons x xs =>
      have := ih xs (by simpa using h)
      rw [entCells_cons, show (i + 1) * 3 = i * 3 + 1 + 1 + 1 by omega]
      simpa [Ent.cells] using this

-- A row of entries: nil, or a block that holds them, and spare cells behind them.
def RowAt (w : World) (v : Value) (xs : List Ent) : Prop :=
  (v = .slice none 0 0 ∧ xs = []) ∨
  ∃ g cap sp, v = .slice (some ⟨g, 0, none⟩) xs.length cap ∧ w.heap[g]? = some (.cells (entCells xs ++ sp).toArray 124 (0, 0)) ∧ (entCells xs ++ sp).length = cap * 3 ∧ xs.length ≤ cap ∧ cap ≤ maxLen

theorem RowAt.ents {w : World} {g n cap : Nat} {xs : List Ent} (h : RowAt w (.slice (some ⟨g, 0, none⟩) n cap) xs) : EntsAt w g xs := by
  rcases h with ⟨h, _⟩ | ⟨g', cap', sp, hv, hg, _, _, _⟩
  · cases h
  · cases hv
    intro i hi
    obtain ⟨h0, h1, h2⟩ := entCells_get xs i hi
    have hl := entCells_length xs
    simp only [World.cell?, hg]
    refine ⟨?_, ?_, ?_⟩ <;> simp only [Option.isSome_none, List.getElem?_toArray, Bool.false_eq_true, if_false] <;> rw [List.getElem?_append_left (by omega)] <;> assumption
theorem RowAt.len {w : World} {a : Option Addr} {n cap : Nat} {xs : List Ent} (h : RowAt w (.slice a n cap) xs) : n = xs.length := by
  rcases h with ⟨h, rfl⟩ | ⟨g', cap', sp, hv, _⟩
  · cases h; rfl
  · cases hv; rfl
theorem RowAt.kept {w w' : World} {v : Value} {xs : List Ent} (h : RowAt w v xs) (hk : ∀ g, v.ownBlock = some g → w'.heap[g]? = w.heap[g]?) : RowAt w' v xs := by
  rcases h with h | ⟨g, cap, sp, rfl, hg, r⟩
  · exact .inl h
  · exact .inr ⟨g, cap, sp, rfl, (hk g rfl).trans hg, r⟩

-- A BUILTIN WHOSE RUN IS KNOWN BY AN EQUATION
section
variable {P : Program} {w : World} {ops : Array Oper} {rest : List Oper} {o : Oper} {a : Act} {Q : Exit → Act → World → Prop}
theorem wpList_copyB (hgd : o.guard = none) (d s : Operand) (t t' : TypeId) (ho : o.op = .call { callee := .builtin .copy, args := #[d, s], argTypes := #[t, t'] }) (v u : Value) (hd : a.eval d = v) (hs : a.eval s = u) (v' : Value) (w' : World)
    (hr : (Builtin.copy_ #[t, t'] o.type #[v, u]).run P w = .ok v' w') (h : wpList P ops Q rest (a.put o.dst v') w') : wpList P ops Q (o :: rest) a w :=
  wpList_plain hgd fun _ hK => by
    unfold Oper.wp execOp
    simp only [ho, resolve, invoke, builtin, Sem.run_bind, Sem.run_pure, Result.andThen_ok, List.map_toArray, List.map_cons, List.map_nil, hd, hs, hr]
    exact hK _ _ h
theorem wpList_appendB (hgd : o.guard = none) (d s : Operand) (t t' : TypeId) (ho : o.op = .call { callee := .builtin .append, args := #[d, s], argTypes := #[t, t'] }) (v u : Value) (hd : a.eval d = v) (hs : a.eval s = u) (v' : Value) (w' : World)
    (hr : (Builtin.append_ #[t, t'] o.type #[v, u]).run P w = .ok v' w') (h : wpList P ops Q rest (a.put o.dst v') w') : wpList P ops Q (o :: rest) a w :=
  wpList_plain hgd fun _ hK => by
    unfold Oper.wp execOp
    simp only [ho, resolve, invoke, builtin, Sem.run_bind, Sem.run_pure, Result.andThen_ok, List.map_toArray, List.map_cons, List.map_nil, hd, hs, hr]
    exact hK _ _ h
theorem wpList_clearB (hgd : o.guard = none) (d : Operand) (t : TypeId) (ho : o.op = .call { callee := .builtin .clear, args := #[d], argTypes := #[t] }) (v : Value) (hd : a.eval d = v) (v' : Value) (w' : World)
    (hr : (Builtin.clear_ #[t] o.type #[v]).run P w = .ok v' w') (h : wpList P ops Q rest (a.put o.dst v') w') : wpList P ops Q (o :: rest) a w :=
  wpList_plain hgd fun _ hK => by
    unfold Oper.wp execOp
    simp only [ho, resolve, invoke, builtin, Sem.run_bind, Sem.run_pure, Result.andThen_ok, List.map_toArray, List.map_cons, List.map_nil, hd, hr]
    exact hK _ _ h
theorem step_copyB {K : Act → World → Prop} {E : Prop} (hgd : o.guard = none) (d s : Operand) (t t' : TypeId) (ho : o.op = .call { callee := .builtin .copy, args := #[d, s], argTypes := #[t, t'] }) (v u : Value) (hd : a.eval d = v) (hs : a.eval s = u) (v' : Value) (w' : World)
    (hr : (Builtin.copy_ #[t, t'] o.type #[v, u]).run P w = .ok v' w') (h : K (a.put o.dst v') w') : if Region.wanted o (yielded ops a.tmps) = true then Oper.wp P o a w K Q else E := by
  have hw : Region.wanted o (yielded ops a.tmps) = true := by simp [Region.wanted, hgd]
  rw [if_pos hw]
  unfold Oper.wp execOp
  simp only [ho, resolve, invoke, builtin, Sem.run_bind, Sem.run_pure, Result.andThen_ok, List.map_toArray, List.map_cons, List.map_nil, hd, hs, hr]
  exact h
theorem step_appendB {K : Act → World → Prop} {E : Prop} (hgd : o.guard = none) (d s : Operand) (t t' : TypeId) (ho : o.op = .call { callee := .builtin .append, args := #[d, s], argTypes := #[t, t'] }) (v u : Value) (hd : a.eval d = v) (hs : a.eval s = u) (v' : Value) (w' : World)
    (hr : (Builtin.append_ #[t, t'] o.type #[v, u]).run P w = .ok v' w') (h : K (a.put o.dst v') w') : if Region.wanted o (yielded ops a.tmps) = true then Oper.wp P o a w K Q else E := by
  have hw : Region.wanted o (yielded ops a.tmps) = true := by simp [Region.wanted, hgd]
  rw [if_pos hw]
  unfold Oper.wp execOp
  simp only [ho, resolve, invoke, builtin, Sem.run_bind, Sem.run_pure, Result.andThen_ok, List.map_toArray, List.map_cons, List.map_nil, hd, hs, hr]
  exact h

-- copy, at elements of sz cells.
theorem run_copyS (dT sT ty elem : TypeId) (sz g o' dLen dCap : Nat) (ad : Addr) (sLen sCap : Nat) (cur : Array Value) (t : TypeId) (cs : List Value)
    (hu : P.underlying dT = some (.slice elem)) (hs : (P.info? elem).map (·.size) = some sz)
    (hg : w.heap[g]? = some (.cells cur t (0, 0))) (hn : cs.length = Nat.min sLen dLen * sz)
    (hsrc : ∀ j v, cs[j]? = some v → w.cell? (ad.add j) = some v) (hfit : o' + cs.length ≤ cur.size) (h1 : ∀ v ∈ cs, v.oneCell' = true) :
    (Builtin.copy_ #[dT, sT] ty #[.slice (some ⟨g, o', none⟩) dLen dCap, .slice (some ad) sLen sCap]).run P w =
      .ok (goInt (Nat.min sLen dLen)) (w.setRow g (cur.toList.take o' ++ cs ++ cur.toList.drop (o' + cs.length)).toArray) := by
  have hl := run_loadCells_list (P := P) w ad cs hsrc
  have hst := run_storeCells_at P g o' t cs 0 cur w hg (by simpa using hfit) h1
  cases hq : P.info? elem with
  | none => simp [hq] at hs
  | some i =>
    have hi : i.size = sz := by simpa [hq] using hs
    simp [Builtin.copy_, run_underlying hu, Builtin.lenOf, Builtin.firstCells, sizeOf, typeInfo, hq, hi, ← hn, hl, hst]
-- clear, likewise; n > 0.
theorem run_clearS (t ty e : TypeId) (z : Value) (ht : P.underlying t = some (.slice e)) (hv : ∀ w, (zeroValue e).run P w = .ok z w) (g o' n c : Nat) (hn : 0 < n) (cur : Array Value) (tt : TypeId) (zs : List Value)
    (hg : w.heap[g]? = some (.cells cur tt (0, 0))) (hz : (Builtin.zeroCells z.cells n).toList = zs) (hfit : o' + zs.length ≤ cur.size) (h1 : ∀ v ∈ zs, v.oneCell' = true) :
    (Builtin.clear_ #[t] ty #[.slice (some ⟨g, o', none⟩) n c]).run P w = .ok (.tuple #[]) (w.setRow g (cur.toList.take o' ++ zs ++ cur.toList.drop (o' + zs.length)).toArray) := by
  have hst := run_storeCells_at P g o' tt zs 0 cur w hg (by simpa using hfit) h1
  obtain ⟨m, rfl⟩ : ∃ m, n = m + 1 := ⟨n - 1, by omega⟩
  simp only [Nat.add_zero] at hst
  simp [Builtin.clear_, run_underlying ht, hv, hz, hst]
end
end Go.Proofs.Ytkihifodifkieaa

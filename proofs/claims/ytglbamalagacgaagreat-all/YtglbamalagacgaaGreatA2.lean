import Derived.Test.YtglbamalagacgaaGreatA1
import Derived.Lib.AppendZeros
import Derived.Lib.Overlaps
import Derived.Laws.Externs
import Derived.Laws.CopyRow
import Derived.Deep.RegionLaw
namespace Go.Proofs.YtglbamalagacgaaGreat.R
open Go.RowKit
abbrev rentV (k a l n : Int) : Value := .agg #[.int .i64 k, .int .i64 a, .int .i64 l, .int .i64 n]
abbrev cmpIV : Value := .func (.func 128) #[] #[]
set_option maxHeartbeats 400000 in
theorem find1_any (k a l n b : Int) (bx st : Nat) (w : World) (hbx : w.cell? ⟨bx, 0, none⟩ = some (ptrV st)) (hst : w.cell? ⟨st, 0, none⟩ = some cmpIV) :
  Calls Tryz.prog 151 #[rentV k a l n, .int .i64 b, ptrV bx] w fun e w' => e = .returned (.int .i64 (cmpI k b)) /\ Below w.heap.size w w' := by
 have h1 := World.block_lt_of_cell? w _ hbx
 have h2 := World.block_lt_of_cell? w _ hst
 simp only at h1 h2
 have h1' : bx < w.heap.size + 1 := by omega
 have h2' : st < w.heap.size + 1 := by omega
 go_enter Tryz.func151, Tryz.ntmps151
 go_wp2
 go_quiet ((go_at_call 128; exact Calls.quiet_of_same (cmpInt_any k b _)))
 go_wp2
 go_ret
 exact ⟨rfl, (by repeat (first | exact Below.refl _ _ | refine below_drewN ?_ _ | refine Below.drew ?_ | refine Below.trans ?_ (Below.mono (by assumption) ?_) | refine Below.alloc ?_ ?_ _ | refine Below.setCell ?_ ?_ _ | omega | (simp; omega) | simp))⟩
structure Ent where
 k : Int
 a : Int
 l : Int
 n : Int
def Ent.z : Ent := ⟨0, 0, 0, 0⟩
def EntsAt (w : World) (e : Nat) (xs : List Ent) : Prop :=
 ∀ i, i < xs.length -> w.cell? ⟨e, i * 4, none⟩ = some (.int .i64 (xs[i]?.getD Ent.z).k) /\ w.cell? ⟨e, i * 4 + 1, none⟩ = some (.int .i64 (xs[i]?.getD Ent.z).a) /\ w.cell? ⟨e, i * 4 + 2, none⟩ = some (.int .i64 (xs[i]?.getD Ent.z).l) /\ w.cell? ⟨e, i * 4 + 3, none⟩ = some (.int .i64 (xs[i]?.getD Ent.z).n)
theorem ents_later {w wr : World} {e bx st h : Nat} {xs : List Ent} (hx : EntsAt w e xs) (hbx : w.cell? ⟨bx, 0, none⟩ = some (ptrV st)) (hst : w.cell? ⟨st, 0, none⟩ = some cmpIV)
  (hB : Below w.heap.size w wr) (hh : h < xs.length) :
  wr.cell? ⟨e, h * 4, none⟩ = some (.int .i64 (xs[h]?.getD Ent.z).k) /\ wr.cell? ⟨e, h * 4 + 1, none⟩ = some (.int .i64 (xs[h]?.getD Ent.z).a) /\ wr.cell? ⟨e, h * 4 + 2, none⟩ = some (.int .i64 (xs[h]?.getD Ent.z).l) /\ wr.cell? ⟨e, h * 4 + 3, none⟩ = some (.int .i64 (xs[h]?.getD Ent.z).n)
  /\ wr.cell? ⟨bx, 0, none⟩ = some (ptrV st) /\ wr.cell? ⟨st, 0, none⟩ = some cmpIV /\ e < wr.heap.size := by
 obtain ⟨hx0, hx1, hx2, hx3⟩ := hx h hh
 have he := World.block_lt_of_cell? w _ hx0
 have h1 := World.block_lt_of_cell? w _ hbx
 have h2 := World.block_lt_of_cell? w _ hst
 simp only at he h1 h2
 have e0 : wr.cell? ⟨e, h * 4, none⟩ = some (.int .i64 (xs[h]?.getD Ent.z).k) := (hB.cell (p := ⟨e, h * 4, none⟩) he).trans hx0
 exact ⟨e0, (hB.cell (p := ⟨e, h * 4 + 1, none⟩) he).trans hx1, (hB.cell (p := ⟨e, h * 4 + 2, none⟩) he).trans hx2, (hB.cell (p := ⟨e, h * 4 + 3, none⟩) he).trans hx3,
  (hB.cell (p := ⟨bx, 0, none⟩) h1).trans hbx, (hB.cell (p := ⟨st, 0, none⟩) h2).trans hst, World.block_lt_of_cell? wr _ e0⟩
set_option maxHeartbeats 400000 in
theorem bsearch_any (xs : List Ent) (e cap bx st : Nat) (b : Int) (w : World) (hn : xs.length <= 1000000) (hx : EntsAt w e xs)
  (hbx : w.cell? ⟨bx, 0, none⟩ = some (ptrV st)) (hst : w.cell? ⟨st, 0, none⟩ = some cmpIV)
  (hmono : ∀ i j, i <= j -> j < xs.length -> cmpI (xs[j]?.getD Ent.z).k b < 0 -> cmpI (xs[i]?.getD Ent.z).k b < 0) :
  Calls Tryz.prog 150 #[.slice (some ⟨e, 0, none⟩) xs.length cap, .int .i64 b, .func (.func 151) #[] #[ptrV bx]] w fun r w' =>
   Below w.heap.size w w' /\ ∃ i : Nat, i <= xs.length /\ (∀ k, k < i -> cmpI (xs[k]?.getD Ent.z).k b < 0) /\ (∀ k, i <= k -> k < xs.length -> 0 <= cmpI (xs[k]?.getD Ent.z).k b) ∧
    r = .returned (.tuple #[.int .i64 i, .bool (decide (i < xs.length) && (cmpI (xs[i]?.getD Ent.z).k b == 0))]) := by
 have h1 := World.block_lt_of_cell? w _ hbx
 have h2 := World.block_lt_of_cell? w _ hst
 simp only at h1 h2
 go_enter Tryz.func150, Tryz.ntmps150
 go_wp2
 have hmono' : Hid (∀ i j, i <= j -> j < xs.length -> cmpI (xs[j]?.getD Ent.z).k b < 0 -> cmpI (xs[i]?.getD Ent.z).k b < 0) := hmono
 clear hmono
 go_loopw [9, 10] (fun i j wr => ∃ p q : Nat, i = .int .i64 p /\ j = .int .i64 q /\ p <= q /\ q <= xs.length /\ Hid (∀ k, k < p -> cmpI (xs[k]?.getD Ent.z).k b < 0) /\ Hid (∀ k, q <= k -> k < xs.length -> 0 <= cmpI (xs[k]?.getD Ent.z).k b) /\ Below w.heap.size w wr) (fun i j _ => (intOf j).toNat - (intOf i).toNat)
 case atStart => exact ⟨0, xs.length, rfl, rfl, Nat.zero_le _, Nat.le_refl _, fun k hk => absurd hk (Nat.not_lt_zero _), fun k h1 h2 => absurd h1 (by omega), Below.refl _ _⟩
 case round =>
  obtain ⟨p, q, rfl, rfl, hpq, hq, hlo, hhi, hB⟩ := hrel
  by_cases hlt : p < q
  ·obtain ⟨h, hh⟩ : ∃ h : Nat, ((p : Int) + (q : Int)) / 2 = (h : Int) := ⟨(p + q) / 2, by omega⟩
   have hh1 : p <= h := by omega
   have hh2 : h < q := by omega
   obtain ⟨e0, e1, e2, e3, b0, s0, l0⟩ := ents_later (h := h) hx hbx hst hB (by omega)
   have i0 : (0 : Int) <= (h : Int) := by omega
   have i1 : (h : Int) < (xs.length : Int) := by omega
   go_wp2_with fail
   refine (find1_any _ _ _ _ _ bx st _ b0 s0).mono ?_
   rintro _ w' ⟨rfl, hb⟩
   all_goals
    have hB2 : Below w.heap.size w w' := hB.trans (hb.mono hB.size)
    clear hB hb e0 e1 e2 e3 b0 s0 l0
    by_cases hcm : cmpI (xs[h]?.getD Ent.z).k b < 0
    ·have HC := hide hcm
     go_wp2
     go_roundw
     case rel => exact ⟨h + 1, q, by go_num, rfl, by omega, hq, fun k hk => hmono'.out k h (by omega) (by omega) HC.out, hhi, hB2⟩
     case measure => simp [intOf]; omega
    ·have HC := hide hcm
     go_wp2
     go_roundw
     case rel => exact ⟨p, h, rfl, rfl, hh1, by omega, hlo, fun k hk hk' => by
      rcases Nat.lt_or_ge k q with h3 | h3
      ·exact Int.not_lt.1 fun hc => Int.not_lt.2 HC.out (hmono'.out h k hk hk' hc)
      ·exact hhi.out k h3 hk', hB2⟩
     case measure => simp [intOf]; omega
  ·obtain rfl : p = q := by omega
   by_cases hl2 : p < xs.length
   ·obtain ⟨e0, e1, e2, e3, b0, s0, l0⟩ := ents_later (h := p) hx hbx hst hB hl2
    have i0 : (0 : Int) <= (p : Int) := by omega
    have i1 : (p : Int) < (xs.length : Int) := by omega
    go_wp2_with fail
    refine (find1_any _ _ _ _ _ bx st _ b0 s0).mono ?_
    rintro _ w' ⟨rfl, hb⟩
    have hB2 : Below w.heap.size w w' := hB.trans (hb.mono hB.size)
    clear hB hb e0 e1 e2 e3 b0 s0 l0
    go_wp2
    go_ret2
    exact ⟨hB2, p, hq, hlo, hhi, by simp [hl2]⟩
   ·have hd : decide ((p : Int) < (xs.length : Int)) = false := by simp; omega
    go_wp2
    go_ret2
    exact ⟨hB, p, hq, hlo, hhi, by simp [hl2]⟩
end Go.Proofs.YtglbamalagacgaaGreat.R

namespace Go.Proofs.YtglbamalagacgaaGreat
open Go.RowKit
def Ent.cells (x : Ent) : List Value := [.int .i64 x.a, .int .i64 x.l, .int .i64 x.n]
def entCells (xs : List Ent) : List Value := xs.flatMap Ent.cells
theorem entCells_cons (x : Ent) (xs : List Ent) : entCells (x :: xs) = x.cells ++ entCells xs := rfl
theorem entCells_append (xs ys : List Ent) : entCells (xs ++ ys) = entCells xs ++ entCells ys := by simp [entCells]
theorem entCells_length (xs : List Ent) : (entCells xs).length = xs.length * 3 := by
 induction xs with
 | nil => rfl
 | cons x xs ih => rw [entCells_cons, List.length_append, ih]; simp [Ent.cells]; omega
theorem entCells_take (xs : List Ent) (i : Nat) : (entCells xs).take (i * 3) = entCells (xs.take i) := by
 induction i generalizing xs with
 | zero => simp [entCells]
 | succ i ih =>
  cases xs with
  | nil => simp [entCells]
  | cons x xs => rw [List.take_succ_cons, entCells_cons, entCells_cons, <- ih xs, show (i + 1) * 3 = i * 3 + 1 + 1 + 1 by omega]; rfl
theorem entCells_drop (xs : List Ent) (i : Nat) : (entCells xs).drop (i * 3) = entCells (xs.drop i) := by
 induction i generalizing xs with
 | zero => simp
 | succ i ih =>
  cases xs with
  | nil => simp [entCells]
  | cons x xs => rw [List.drop_succ_cons, entCells_cons, <- ih xs, show (i + 1) * 3 = i * 3 + 1 + 1 + 1 by omega]; rfl
theorem entCells_one (xs : List Ent) : ∀ v ∈ entCells xs, v.oneCell' = true := by
 intro v hv
 obtain ⟨x, _, hx⟩ := List.mem_flatMap.1 hv
 simp [Ent.cells] at hx
 rcases hx with rfl | rfl | rfl <;> rfl
theorem entCells_get (xs : List Ent) (i : Nat) (h : i < xs.length) : (entCells xs)[i * 3]? = some (.int .i64 (xs[i]?.getD Ent.z).a) /\ (entCells xs)[i * 3 + 1]? = some (.int .i64 (xs[i]?.getD Ent.z).l) /\ (entCells xs)[i * 3 + 2]? = some (.int .i64 (xs[i]?.getD Ent.z).n) := by
 induction i generalizing xs with
 | zero =>
  cases xs with
  | nil => simp at h
  | cons x xs => exact ⟨rfl, rfl, rfl⟩
 | succ i ih =>
  cases xs with
  | nil => simp at h
  | cons x xs =>
   have := ih xs (by simpa using h)
   rw [entCells_cons, show (i + 1) * 3 = i * 3 + 1 + 1 + 1 by omega]
   simpa [Ent.cells] using this
def RowAt (w : World) (v : Value) (xs : List Ent) : Prop :=
 (v = .slice none 0 0 /\ xs = []) ∨
 ∃ g cap sp, v = .slice (some ⟨g, 0, none⟩) xs.length cap /\ w.heap[g]? = some (.cells (entCells xs ++ sp).toArray 199 (0, 0)) /\ (entCells xs ++ sp).length = cap * 3 /\ xs.length <= cap /\ cap <= maxLen
theorem RowAt.ents {w : World} {g n cap : Nat} {xs : List Ent} (h : RowAt w (.slice (some ⟨g, 0, none⟩) n cap) xs) : EntsAt w g xs := by
 rcases h with ⟨h, _⟩ | ⟨g', cap', sp, hv, hg, _, _, _⟩
 ·cases h
 ·cases hv
  intro i hi
  obtain ⟨h0, h1, h2⟩ := entCells_get xs i hi
  have hl := entCells_length xs
  simp only [World.cell?, hg]
  refine ⟨?_, ?_, ?_⟩ <;> simp only [Option.isSome_none, List.getElem?_toArray, Bool.false_eq_true, if_false] <;> rw [List.getElem?_append_left (by omega)] <;> assumption
theorem RowAt.kept {w w' : World} {v : Value} {xs : List Ent} (h : RowAt w v xs) (hk : ∀ g, v.ownBlock = some g -> w'.heap[g]? = w.heap[g]?) : RowAt w' v xs := by
 rcases h with h | ⟨g, cap, sp, rfl, hg, r⟩
 ·exact .inl h
 ·exact .inr ⟨g, cap, sp, rfl, (hk g rfl).trans hg, r⟩
section
variable {P : Program} {w : World} {ops : Array Oper} {rest : List Oper} {o : Oper} {a : Act} {Q : Exit -> Act -> World -> Prop}
theorem wpList_copyB (hgd : o.guard = none) (d s : Operand) (t t' : TypeId) (ho : o.op = .call { callee := .builtin .copy, args := #[d, s], argTypes := #[t, t'] }) (v u : Value) (hd : a.eval d = v) (hs : a.eval s = u) (v' : Value) (w' : World)
  (hr : (Builtin.copy_ #[t, t'] o.type #[v, u]).run P w = .ok v' w') (h : wpList P ops Q rest (a.put o.dst v') w') : wpList P ops Q (o :: rest) a w :=
 wpList_plain hgd fun _ hK => by
  unfold Oper.wp execOp
  simp only [ho, resolve, invoke, builtin, Sem.run_bind, Sem.run_pure, Result.andThen_ok, List.map_toArray, List.map_cons, List.map_nil, hd, hs, hr]
  exact hK _ _ h
theorem wpList_appendB (hgd : o.guard = none) (d s : Operand) (t t' : TypeId) (ho : o.op = .call { callee := .builtin .append, args := #[d, s], argTypes := #[t, t'] }) (v u : Value) (hd : a.eval d = v) (hs : a.eval s = u) (v' : Value) (w' : World)
  (hr : (Builtin.append_ #[t, t'] o.type #[v, u]).run P w = .ok v' w') (h : wpList P ops Q rest (a.put o.dst v') w') : wpList P ops Q (o :: rest) a w :=
 wpList_plain hgd fun _ hK => by
  unfold Oper.wp execOp
  simp only [ho, resolve, invoke, builtin, Sem.run_bind, Sem.run_pure, Result.andThen_ok, List.map_toArray, List.map_cons, List.map_nil, hd, hs, hr]
  exact hK _ _ h
theorem step_copyB {K : Act -> World -> Prop} {E : Prop} (hgd : o.guard = none) (d s : Operand) (t t' : TypeId) (ho : o.op = .call { callee := .builtin .copy, args := #[d, s], argTypes := #[t, t'] }) (v u : Value) (hd : a.eval d = v) (hs : a.eval s = u) (v' : Value) (w' : World)
  (hr : (Builtin.copy_ #[t, t'] o.type #[v, u]).run P w = .ok v' w') (h : K (a.put o.dst v') w') : if Region.wanted o (yielded ops a.tmps) = true then Oper.wp P o a w K Q else E := by
 have hw : Region.wanted o (yielded ops a.tmps) = true := by simp [Region.wanted, hgd]
 rw [if_pos hw]
 unfold Oper.wp execOp
 simp only [ho, resolve, invoke, builtin, Sem.run_bind, Sem.run_pure, Result.andThen_ok, List.map_toArray, List.map_cons, List.map_nil, hd, hs, hr]
 exact h
theorem step_appendB {K : Act -> World -> Prop} {E : Prop} (hgd : o.guard = none) (d s : Operand) (t t' : TypeId) (ho : o.op = .call { callee := .builtin .append, args := #[d, s], argTypes := #[t, t'] }) (v u : Value) (hd : a.eval d = v) (hs : a.eval s = u) (v' : Value) (w' : World)
  (hr : (Builtin.append_ #[t, t'] o.type #[v, u]).run P w = .ok v' w') (h : K (a.put o.dst v') w') : if Region.wanted o (yielded ops a.tmps) = true then Oper.wp P o a w K Q else E := by
 have hw : Region.wanted o (yielded ops a.tmps) = true := by simp [Region.wanted, hgd]
 rw [if_pos hw]
 unfold Oper.wp execOp
 simp only [ho, resolve, invoke, builtin, Sem.run_bind, Sem.run_pure, Result.andThen_ok, List.map_toArray, List.map_cons, List.map_nil, hd, hs, hr]
 exact h
theorem run_copyS (dT sT ty elem : TypeId) (sz g o' dLen dCap : Nat) (ad : Addr) (sLen sCap : Nat) (cur : Array Value) (t : TypeId) (cs : List Value)
  (hu : P.underlying dT = some (.slice elem)) (hs : (P.info? elem).map (·.size) = some sz)
  (hg : w.heap[g]? = some (.cells cur t (0, 0))) (hn : cs.length = Nat.min sLen dLen * sz)
  (hsrc : ∀ j v, cs[j]? = some v -> w.cell? (ad.add j) = some v) (hfit : o' + cs.length <= cur.size) (h1 : ∀ v ∈ cs, v.oneCell' = true) :
  (Builtin.copy_ #[dT, sT] ty #[.slice (some ⟨g, o', none⟩) dLen dCap, .slice (some ad) sLen sCap]).run P w =
   .ok (goInt (Nat.min sLen dLen)) (w.setRow g (cur.toList.take o' ++ cs ++ cur.toList.drop (o' + cs.length)).toArray) := by
 have hl := run_loadCells_list (P := P) w ad cs hsrc
 have hst := run_storeCells_at P g o' t cs 0 cur w hg (by simpa using hfit) h1
 cases hq : P.info? elem with
 | none => simp [hq] at hs
 | some i =>
  have hi : i.size = sz := by simpa [hq] using hs
  simp [Builtin.copy_, run_underlying hu, Builtin.lenOf, Builtin.firstCells, sizeOf, typeInfo, hq, hi, <- hn, hl, hst]
theorem run_clearS (t ty e : TypeId) (z : Value) (ht : P.underlying t = some (.slice e)) (hv : ∀ w, (zeroValue e).run P w = .ok z w) (g o' n c : Nat) (hn : 0 < n) (cur : Array Value) (tt : TypeId) (zs : List Value)
  (hg : w.heap[g]? = some (.cells cur tt (0, 0))) (hz : (Builtin.zeroCells z.cells n).toList = zs) (hfit : o' + zs.length <= cur.size) (h1 : ∀ v ∈ zs, v.oneCell' = true) :
  (Builtin.clear_ #[t] ty #[.slice (some ⟨g, o', none⟩) n c]).run P w = .ok (.tuple #[]) (w.setRow g (cur.toList.take o' ++ zs ++ cur.toList.drop (o' + zs.length)).toArray) := by
 have hst := run_storeCells_at P g o' tt zs 0 cur w hg (by simpa using hfit) h1
 obtain ⟨m, rfl⟩ : ∃ m, n = m + 1 := ⟨n - 1, by omega⟩
 simp only [Nat.add_zero] at hst
 simp [Builtin.clear_, run_underlying ht, hv, hz, hst]
end
end Go.Proofs.YtglbamalagacgaaGreat

namespace Go.Proofs.YtglbamalagacgaaGreat
open Go.RowKit
theorem drop_past {α : Type} (l sp : List α) (k : Nat) : (l ++ sp).drop (l.length + k) = sp.drop k := by
 rw [List.drop_append]; simp
theorem entInfo : ∃ i, Tryz.prog.info? 199 = some i /\ i.zero = some (entV 0 0 0) /\ i.size = 3 /\ i.bytes = 24 := by
 have h : (Tryz.prog.info? 199).map (fun i => (i.zero, i.size, i.bytes)) = some (some (entV 0 0 0), 3, 24) := by kernel_rfl
 cases hq : Tryz.prog.info? 199 with
 | none => simp [hq] at h
 | some i => simp [hq] at h; exact ⟨i, rfl, h.1, h.2.1, h.2.2⟩
abbrev vA (vb : Nat) : Value := .slice (some ⟨vb, 0, none⟩) 1 1
def OneAt (w : World) (vb : Nat) (x : Ent) : Prop := w.heap[vb]? = some (.cells x.cells.toArray 199 (0, 0))
theorem OneAt.news {w : World} {vb : Nat} {x : Ent} (h : OneAt w vb x) : ∀ j u, x.cells[j]? = some u -> w.cell? ((⟨vb, 0, none⟩ : Addr).add j) = some u := by
 intro j u hj
 unfold OneAt at h
 rw [Addr.add_lit]
 simp [World.cell?, h, hj]
def growZ (w : World) (need old : Nat) : List Value := (Builtin.zeroCells (entV 0 0 0).cells (grownCap w need old 199 - need)).toList
theorem ins_run_nil (w : World) (vb : Nat) (x : Ent) (hv : OneAt w vb x) (ty : TypeId) :
  (Builtin.append_ #[181, 181] ty #[.slice none 0 0, vA vb]).run Tryz.prog w =
   .ok (.slice (some ⟨w.heap.size, 0, none⟩) 1 (grownCap w 1 0 199)) (w.drew.alloc (.cells (entCells [x] ++ growZ w 1 0).toArray 199)) := by
 obtain ⟨i, hi, hz, hs, hb⟩ := entInfo
 have := run_append_nil (P := Tryz.prog) w 181 ty 199 i _ Tryz.underlying181 hi hz ⟨vb, 0, none⟩ 1 1 x.cells (by simp [hs, Ent.cells]) hv.news (by omega) (by omega) (by rw [hb]; omega)
 rw [this]
 have e : x.cells.toArray ++ Builtin.zeroCells (entV 0 0 0).cells (grownCap w 1 0 199 - 1) = (entCells [x] ++ growZ w 1 0).toArray := by
  apply Array.ext'
  simp [entCells, growZ]
 rw [e]
set_option maxHeartbeats 400000 in
theorem insert_nil (w : World) (vb : Nat) (x : Ent) (hv : OneAt w vb x) :
  Calls Tryz.prog 183 #[.slice none 0 0, .int .i64 0, vA vb] w fun e w' =>
   e = .returned (.slice (some ⟨w.heap.size, 0, none⟩) 1 (grownCap w 1 0 199)) /\ w' = w.drew.alloc (.cells (entCells [x] ++ growZ w 1 0).toArray 199) := by
 have hr := ins_run_nil w vb x hv
 go_enter Tryz.func183, Tryz.ntmps183
 go_wp2_with (at_builtin; refine wpList_appendB rfl _ _ 181 181 rfl _ _ rfl rfl _ _ (hr _) ?_)
 go_ret
 exact ⟨rfl, rfl⟩
theorem ins_run_room (w : World) (g n cap vb : Nat) (xs : List Ent) (sp : List Value) (x : Ent) (hv : OneAt w vb x) (hn : n = xs.length) (hg : w.heap[g]? = some (.cells (entCells xs ++ sp).toArray 199 (0, 0))) (hl : (entCells xs ++ sp).length = cap * 3) (hroom : n + 1 <= cap) (ty : TypeId) :
  (Builtin.append_ #[181, 181] ty #[.slice (some ⟨g, 0, none⟩) n cap, vA vb]).run Tryz.prog w =
   .ok (.slice (some ⟨g, 0, none⟩) (n + 1) cap) (w.setRow g (entCells (xs ++ [x]) ++ sp.drop 3).toArray) := by
 obtain ⟨i, hi, hz, hs, hb⟩ := entInfo
 have hlx := entCells_length xs
 have hl3 : x.cells.length = 3 := rfl
 rw [List.length_append, hlx] at hl
 have := run_append_room (P := Tryz.prog) w 181 ty 199 i Tryz.underlying181 hi g n cap _ hg ⟨vb, 0, none⟩ 1 1 x.cells (by simp [hs, Ent.cells]) hv.news (by have := entCells_one [x]; simpa [entCells] using this) hroom
  (by rw [hs, hn, List.size_toArray, List.length_append, hlx, hl3]; omega)
 rw [this, hs, hn]
 have e : (List.take (xs.length * 3) (entCells xs ++ sp).toArray.toList ++ x.cells ++ List.drop (xs.length * 3 + x.cells.length) (entCells xs ++ sp).toArray.toList) = entCells (xs ++ [x]) ++ sp.drop 3 := by
  rw [List.take_left' hlx, show xs.length * 3 + x.cells.length = (entCells xs).length + 3 by rw [hlx, hl3], drop_past, entCells_append]
  simp [entCells]
 rw [e]
theorem ins_run_grow (w : World) (g n cap vb : Nat) (xs : List Ent) (sp : List Value) (x : Ent) (hv : OneAt w vb x) (hn : n = xs.length) (hbig : n <= 1000000) (hg : w.heap[g]? = some (.cells (entCells xs ++ sp).toArray 199 (0, 0))) (hroom : cap < n + 1) (ty : TypeId) :
  (Builtin.append_ #[181, 181] ty #[.slice (some ⟨g, 0, none⟩) n cap, vA vb]).run Tryz.prog w =
   .ok (.slice (some ⟨w.heap.size, 0, none⟩) (n + 1) (grownCap w (n + 1) cap 199)) (w.drew.alloc (.cells (entCells (xs ++ [x]) ++ growZ w (n + 1) cap).toArray 199)) := by
 obtain ⟨i, hi, hz, hs, hb⟩ := entInfo
 have hlx := entCells_length xs
 have := run_append_grow (P := Tryz.prog) w 181 ty 199 i _ Tryz.underlying181 hi hz ⟨g, 0, none⟩ n cap (entCells xs) (by rw [hlx, hs, hn])
  (fun j v hj => by
   rw [Addr.add_lit]
   have : j < (entCells xs).length := (List.getElem?_eq_some_iff.1 hj).1
   simp only [World.cell?, hg]
   simp [List.getElem?_append_left this, hj])
  ⟨vb, 0, none⟩ 1 1 x.cells (by simp [hs, Ent.cells]) hv.news hroom (by omega) (growslice_fits hroom (by rw [hb]; omega))
 rw [this]
 have e : (entCells xs).toArray ++ x.cells.toArray ++ Builtin.zeroCells (entV 0 0 0).cells (grownCap w (n + 1) cap 199 - (n + 1)) = (entCells (xs ++ [x]) ++ growZ w (n + 1) cap).toArray := by
  apply Array.ext'
  simp [entCells, growZ]
 rw [e]
set_option maxHeartbeats 400000 in
theorem insert_end (w : World) (g n cap vb : Nat) (_hn : n <= 1000000) (_hnc : n <= cap) (_hc : cap <= maxLen) (v' : Value) (w' : World) (hr : ∀ ty, (Builtin.append_ #[181, 181] ty #[.slice (some ⟨g, 0, none⟩) n cap, vA vb]).run Tryz.prog w = .ok v' w') :
  Calls Tryz.prog 183 #[.slice (some ⟨g, 0, none⟩) n cap, .int .i64 n, vA vb] w fun e w1 => e = .returned v' /\ w1 = w' := by
 unfold maxLen at _hc
 go_enter Tryz.func183, Tryz.ntmps183
 go_wp2_with (at_builtin; refine wpList_appendB rfl _ _ 181 181 rfl _ _ rfl rfl _ _ (hr _) ?_)
 all_goals (go_ret; exact ⟨rfl, rfl⟩)
theorem ins_copy1 (w : World) (g i cap : Nat) (xs : List Ent) (sp : List Value) (hi : i < xs.length) (hg : w.heap[g]? = some (.cells (entCells xs ++ sp).toArray 199 (0, 0))) (hl : (entCells xs ++ sp).length = cap * 3) (hroom : xs.length + 1 <= cap) (ty : TypeId) (dc sc : Nat) :
  (Builtin.copy_ #[181, 181] ty #[.slice (some ⟨g, (i + 1) * 3, none⟩) (xs.length - i) dc, .slice (some ⟨g, i * 3, none⟩) (xs.length + 1 - i) sc]).run Tryz.prog w =
   .ok (goInt ((xs.length - i : Nat) : Int)) (w.setRow g (entCells (xs.take (i + 1)) ++ entCells (xs.drop i) ++ sp.drop 3).toArray) := by
 have hlx := entCells_length xs
 rw [List.length_append, hlx] at hl
 have hmin : Nat.min (xs.length + 1 - i) (xs.length - i) = xs.length - i := by simp only [Nat.min_def]; split <;> omega
 have hd : (entCells (xs.drop i)).length = (xs.length - i) * 3 := by rw [entCells_length, List.length_drop]
 have := run_copyS (P := Tryz.prog) (w := w) 181 181 ty 199 3 g ((i + 1) * 3) (xs.length - i) dc ⟨g, i * 3, none⟩ (xs.length + 1 - i) sc _ 199 (entCells (xs.drop i)) Tryz.underlying181
  (by obtain ⟨i, h1, _, h3, _⟩ := entInfo; rw [h1]; simp [h3]) hg (by rw [hd, hmin])
  (fun j v hj => by
   rw [Addr.add_lit]
   have hj2 : j < (entCells (xs.drop i)).length := (List.getElem?_eq_some_iff.1 hj).1
   rw [<- entCells_drop, List.getElem?_drop] at hj
   simp only [World.cell?, hg]
   simp [List.getElem?_append_left (show i * 3 + j < (entCells xs).length by omega), hj])
  (by rw [List.size_toArray, List.length_append, hd, hlx]; omega) (entCells_one _)
 rw [this, hmin]
 have e : List.take ((i + 1) * 3) (entCells xs ++ sp).toArray.toList ++ entCells (xs.drop i) ++ List.drop ((i + 1) * 3 + (entCells (xs.drop i)).length) (entCells xs ++ sp).toArray.toList = entCells (xs.take (i + 1)) ++ entCells (xs.drop i) ++ sp.drop 3 := by
  have h1 : List.take ((i + 1) * 3) (entCells xs ++ sp) = entCells (xs.take (i + 1)) := by
   rw [List.take_append_of_le_length (by omega), entCells_take]
  have h2 : (i + 1) * 3 + (entCells (xs.drop i)).length = (entCells xs).length + 3 := by rw [hd, hlx]; omega
  show List.take ((i + 1) * 3) (entCells xs ++ sp) ++ _ ++ List.drop _ (entCells xs ++ sp) = _
  rw [h1, h2, drop_past]
 rw [e]
theorem ins_copy2 (w : World) (g i vb : Nat) (xs : List Ent) (sp2 : List Value) (x : Ent) (hv : OneAt w vb x) (hi : i < xs.length) (hg : w.heap[g]? = some (.cells (entCells (xs.take (i + 1)) ++ entCells (xs.drop i) ++ sp2).toArray 199 (0, 0))) (ty : TypeId) (dc : Nat) :
  (Builtin.copy_ #[181, 181] ty #[.slice (some ⟨g, i * 3, none⟩) (xs.length + 1 - i) dc, vA vb]).run Tryz.prog w =
   .ok (goInt ((1 : Nat) : Int)) (w.setRow g (entCells (xs.take i ++ x :: xs.drop i) ++ sp2).toArray) := by
 have hmin : Nat.min 1 (xs.length + 1 - i) = 1 := by simp only [Nat.min_def]; split <;> omega
 have hl3 : x.cells.length = 3 := rfl
 have ht : (entCells (xs.take (i + 1))).length = (i + 1) * 3 := by rw [entCells_length, List.length_take]; congr 1; omega
 have ht' : (entCells (xs.take i)).length = i * 3 := by rw [entCells_length, List.length_take]; congr 1; omega
 have := run_copyS (P := Tryz.prog) (w := w) 181 181 ty 199 3 g (i * 3) (xs.length + 1 - i) dc ⟨vb, 0, none⟩ 1 1 _ 199 x.cells Tryz.underlying181
  (by obtain ⟨i, h1, _, h3, _⟩ := entInfo; rw [h1]; simp [h3]) hg (by rw [hl3, hmin]) hv.news
  (by rw [List.size_toArray, List.length_append, List.length_append, ht, hl3]; omega) (by have := entCells_one [x]; simpa [entCells] using this)
 rw [this, hmin]
 have e : List.take (i * 3) (entCells (xs.take (i + 1)) ++ entCells (xs.drop i) ++ sp2).toArray.toList ++ x.cells ++ List.drop (i * 3 + x.cells.length) (entCells (xs.take (i + 1)) ++ entCells (xs.drop i) ++ sp2).toArray.toList = entCells (xs.take i ++ x :: xs.drop i) ++ sp2 := by
  show List.take (i * 3) (entCells (xs.take (i + 1)) ++ entCells (xs.drop i) ++ sp2) ++ x.cells ++ List.drop (i * 3 + x.cells.length) (entCells (xs.take (i + 1)) ++ entCells (xs.drop i) ++ sp2) = _
  have h1 : List.take (i * 3) (entCells (xs.take (i + 1)) ++ entCells (xs.drop i) ++ sp2) = entCells (xs.take i) := by
   rw [List.append_assoc, List.take_append_of_le_length (by omega), entCells_take, List.take_take, show min i (i + 1) = i by omega]
  have h2 : i * 3 + x.cells.length = (entCells (xs.take (i + 1))).length := by rw [hl3, ht]; omega
  rw [h1, h2, List.append_assoc (entCells (xs.take (i + 1))), List.drop_left, entCells_append, entCells_cons]
  simp
 rw [e]
theorem entSize (w : World) : (Go.sizeOf 199).run Tryz.prog w = .ok 3 w := by
 obtain ⟨i, hi, _, hs, _⟩ := entInfo
 simp [sizeOf, typeInfo, hi, hs]
theorem ins_overlaps (w : World) (g vb off lb cb kB : Nat) (cur : Array Value) (x : Ent) (hv : OneAt w vb x) (hne : vb ≠ g) (hg : w.heap[g]? = some (.cells cur 199 (0, 0))) (hk : cur.size = kB) (hkB : kB ≠ 0) :
  (callFunc 185 #[vA vb, .slice (some ⟨g, off, none⟩) lb cb]).run Tryz.prog w = .ok (.value (.bool false)) w := by
 have hv' : w.heap[vb]? = some (.cells x.cells.toArray 199 (0, 0)) := hv
 rw [run_callFunc_extern Tryz.func185 (by kernel_rfl) (by kernel_rfl) (by kernel_rfl) (e := Extern.SlicesOverlaps.overlaps #[181, 181] #[4]) (by kernel_rfl),
  Lib.run_overlaps_apart w 181 4 199 Tryz.underlying181 3 entSize ⟨vb, 0, none⟩ ⟨g, off, none⟩ 1 1 lb cb hne 199 199 3 kB (by simp [World.shape?, hv', Ent.cells]) (by simp [World.shape?, hg, hk]) hkB (by simp [World.frozen?, hv']) (by simp [World.frozen?, hv'])]
 rfl
set_option maxHeartbeats 400000 in
theorem insert_mid_room (w : World) (g i cap vb : Nat) (xs : List Ent) (sp : List Value) (x : Ent) (hv : OneAt w vb x) (hne : vb ≠ g) (hi : i < xs.length) (hn : xs.length <= 1000000) (_hc : cap <= maxLen)
  (hg : w.heap[g]? = some (.cells (entCells xs ++ sp).toArray 199 (0, 0))) (hl : (entCells xs ++ sp).length = cap * 3) (hroom : xs.length + 1 <= cap) :
  Calls Tryz.prog 183 #[.slice (some ⟨g, 0, none⟩) xs.length cap, .int .i64 i, vA vb] w fun e w1 =>
   e = .returned (.slice (some ⟨g, 0, none⟩) (xs.length + 1) cap) /\ w1 = w.drew.setRow g (entCells (xs.take i ++ x :: xs.drop i) ++ sp.drop 3).toArray := by
 have hov := fun off lb cb => ins_overlaps w g vb off lb cb (cap * 3) _ x hv hne hg (by simpa using hl) (by omega)
 have hcp1 := fun ty dc sc => ins_copy1 w.drew g i cap xs sp hi hg hl hroom ty dc sc
 obtain ⟨W1, hW1⟩ : ∃ W1, W1 = w.drew.setRow g (entCells (xs.take (i + 1)) ++ entCells (xs.drop i) ++ sp.drop 3).toArray := ⟨_, rfl⟩
 rw [<- hW1] at hcp1
 have hg1 : W1.heap[g]? = some (.cells (entCells (xs.take (i + 1)) ++ entCells (xs.drop i) ++ sp.drop 3).toArray 199 (0, 0)) := by rw [hW1]; exact setRow_heap w.drew g _ _ _ _ hg
 have hv1 : OneAt W1 vb x := by unfold OneAt; rw [hW1]; exact (setRow_other w.drew g vb _ hne).trans hv
 have hcp2 := fun ty dc => ins_copy2 W1 g i vb xs (sp.drop 3) x hv1 hi hg1 ty dc
 have hfin : Hid (W1.setRow g (entCells (xs.take i ++ x :: xs.drop i) ++ sp.drop 3).toArray = w.drew.setRow g (entCells (xs.take i ++ x :: xs.drop i) ++ sp.drop 3).toArray) := by unfold Hid; rw [hW1, setRow_setRow]
 unfold maxLen at _hc
 generalize hnn : xs.length = n at *
 have hb0 : (0 : Int) <= (i : Int) := by omega
 have hb1 : (i : Int) <= (n : Int) := by omega
 have hb2 : ¬ ((i : Int) = (n : Int)) := by omega
 have hb3 : ¬ (cap = i) := by omega
 have hb4 : ¬ (cap = i + 1) := by omega
 have hw1 : IntKind.i64.wrap ((i : Int) + 1) = (i : Int) + 1 := by rw [IntKind.wrap_i64]; omega
 have hb5 : (0 : Int) <= (i : Int) + 1 := by omega
 have hb6 : (i : Int) + 1 <= (n : Int) + 1 := by omega
 have htn : ((i : Int) + 1).toNat = i + 1 := by omega
 have hb7 : (i : Int) <= (n : Int) + 1 := by omega
 have HW := hide hW1
 have HN := hide hnn
 clear hW1 hnn hg1 hv1 hv hg hl
 go_enter Tryz.func183, Tryz.ntmps183
 go_wp2_with (simp only [hov])
 go_region_law (refine step_copyB rfl _ _ 181 181 rfl _ _ (by simp [Act.eval, Act.put]) (by simp [Act.eval, Act.put]) _ _ (hcp1 _ _ _) ?_)
 go_wp2_with (at_builtin; refine wpList_copyB rfl _ _ 181 181 rfl _ _ rfl rfl _ _ (hcp2 _ _) ?_)
 go_ret
 exact ⟨rfl, hfin.out⟩
theorem run_append_grow_zeros {P : Program} (w : World) (t tn ty e : TypeId) (i : TypeInfo) (z : Value) (k kn : IntKind) (ht : P.underlying t = some (.slice e)) (htn : P.underlying tn = some (.int kn)) (hi : P.info? e = some i) (hz : i.zero = some z)
  (b : Addr) (sLen sCap : Nat) (olds : List Value) (hlo : olds.length = sLen * i.size) (holds : ∀ j v, olds[j]? = some v -> w.cell? (b.add j) = some v)
  (n : Nat) (h0 : 0 < n) (hs : 0 < i.size) (hg : sCap < sLen + n) (h63 : ((sLen + n : Nat) : Int) <= 9223372036854775807) (h48 : n * i.bytes <= 281474976710656) (hfit : Builtin.nextslicecap (sLen + n) sCap * i.bytes <= 281474976710656) :
  (Builtin.append_ #[t, tn] ty #[.slice (some b) sLen sCap, .int k n]).run P w =
   .ok (.slice (some ⟨w.heap.size, 0, none⟩) (sLen + n) (grownCap w (sLen + n) sCap e))
    (w.drew.alloc (.cells (olds.toArray ++ Builtin.zeroCells z.cells n ++ Builtin.zeroCells z.cells (grownCap w (sLen + n) sCap e - (sLen + n))) e)) := by
 have hn : ¬ (sLen + n <= sCap) := by omega
 have hn0 : n ≠ 0 := by omega
 have hw : IntKind.i64.wrap (n : Int) = n := by rw [IntKind.wrap_i64]; omega
 have h63' : ¬ (9223372036854775807 < ((sLen : Int) + (n : Int))) := by omega
 have h48' : ¬ (281474976710656 < Builtin.nextslicecap (sLen + n) sCap * i.bytes) := by omega
 have h48i : ¬ (281474976710656 < (n : Int) * (i.bytes : Int)) := by
  rw [<- Int.natCast_mul]
  omega
 have hneg : ¬ ((n : Int) < 0) := by omega
 have hns : ¬ (n * i.size = 0) := Nat.mul_ne_zero hn0 (by omega)
 have hfo := run_firstCells_some (P := P) w.drew i.size sLen b sLen sCap olds hlo (by simpa using holds)
 simp [Builtin.append_, run_underlying ht, run_underlying htn, sizeOf, typeInfo, zeroValue, hi, hz, asInt, asIntOf, hw, hn, hneg, hns, h63', h48', h48i, Question.forced, hfo, newRow, grownCap]
theorem copyAt (w : World) (g : Nat) (A B : List Ent) (Z : List Value) (hg : w.heap[g]? = some (.cells (entCells A ++ Z).toArray 199 (0, 0))) (ty : TypeId) (off dLen dCap : Nat) (ad : Addr) (sLen sCap : Nat) (hoff : off = A.length * 3)
  (hmin : Nat.min sLen dLen = B.length) (hsrc : ∀ j v, (entCells B)[j]? = some v -> w.cell? (ad.add j) = some v) (hfit : B.length * 3 <= Z.length) :
  (Builtin.copy_ #[181, 181] ty #[.slice (some ⟨g, off, none⟩) dLen dCap, .slice (some ad) sLen sCap]).run Tryz.prog w =
   .ok (goInt (B.length : Int)) (w.setRow g (entCells (A ++ B) ++ Z.drop (B.length * 3)).toArray) := by
 have hA := entCells_length A
 have hB := entCells_length B
 subst hoff
 have := run_copyS (P := Tryz.prog) (w := w) 181 181 ty 199 3 g (A.length * 3) dLen dCap ad sLen sCap _ 199 (entCells B) Tryz.underlying181
  (by obtain ⟨i, h1, _, h3, _⟩ := entInfo; rw [h1]; simp [h3]) hg (by rw [hB, hmin]) hsrc
  (by rw [List.size_toArray, List.length_append, hA, hB]; omega) (entCells_one _)
 rw [this, hmin]
 have e : List.take (A.length * 3) (entCells A ++ Z).toArray.toList ++ entCells B ++ List.drop (A.length * 3 + (entCells B).length) (entCells A ++ Z).toArray.toList = entCells (A ++ B) ++ Z.drop (B.length * 3) := by
  show List.take (A.length * 3) (entCells A ++ Z) ++ entCells B ++ List.drop (A.length * 3 + (entCells B).length) (entCells A ++ Z) = _
  rw [List.take_left' hA, <- hA, drop_past, entCells_append, hB]
 rw [e]
theorem part_news {w : World} {g : Nat} {cur : List Value} {xs : List Ent} {t : TypeId} {fz : Nat × Nat} {sp : List Value} (hg : w.heap[g]? = some (.cells cur.toArray t fz)) (hc : cur = entCells xs ++ sp) (i : Nat) :
  ∀ j v, (entCells (xs.drop i))[j]? = some v -> w.cell? ((⟨g, i * 3, none⟩ : Addr).add j) = some v := by
 intro j v hj
 subst hc
 rw [Addr.add_lit]
 have hj2 : j < (entCells (xs.drop i)).length := (List.getElem?_eq_some_iff.1 hj).1
 have hd : (entCells (xs.drop i)).length = (xs.length - i) * 3 := by rw [entCells_length, List.length_drop]
 have hl := entCells_length xs
 rw [<- entCells_drop, List.getElem?_drop] at hj
 simp only [World.cell?, hg]
 simp [List.getElem?_append_left (show i * 3 + j < (entCells xs).length by omega), hj]
theorem zeroCells_length (n : Nat) : (Builtin.zeroCells (entV 0 0 0).cells n).toList.length = n * 3 := by
 have : (entV 0 0 0).cells.size = 3 := rfl
 rw [Array.length_toList, size_zeroCells, this]
def midZ (w : World) (i n cap : Nat) : List Value := (Builtin.zeroCells (entV 0 0 0).cells (n + 1 - i)).toList ++ (Builtin.zeroCells (entV 0 0 0).cells (grownCap w (n + 1) cap 199 - (n + 1))).toList
theorem midZ_length (w : World) (i n cap : Nat) (h : i <= n + 1) : (midZ w i n cap).length + i * 3 = grownCap w (n + 1) cap 199 * 3 := by
 have := grownCap_ge w (n + 1) cap 199
 unfold midZ
 rw [List.length_append, zeroCells_length, zeroCells_length]
 omega
theorem ins_run_mid (w : World) (g i cap : Nat) (xs : List Ent) (sp : List Value) (hi : i < xs.length) (hn : xs.length <= 1000000)
  (hg : w.heap[g]? = some (.cells (entCells xs ++ sp).toArray 199 (0, 0))) (hroom : cap < xs.length + 1) (ty : TypeId) :
  (Builtin.append_ #[181, 3] ty #[.slice (some ⟨g, 0, none⟩) i cap, .int .i64 ((xs.length : Int) + 1 - (i : Int))]).run Tryz.prog w =
   .ok (.slice (some ⟨w.heap.size, 0, none⟩) (xs.length + 1) (grownCap w (xs.length + 1) cap 199)) (w.drew.alloc (.cells (entCells (xs.take i) ++ midZ w i xs.length cap).toArray 199)) := by
 obtain ⟨inf, hinf, hz, hs, hb⟩ := entInfo
 have hlt : (entCells (xs.take i)).length = i * 3 := by rw [entCells_length, List.length_take, Nat.min_eq_left (by omega)]
 have := run_append_grow_zeros (P := Tryz.prog) w 181 3 ty 199 inf _ .i64 .i64 Tryz.underlying181 Tryz.underlying3 hinf hz ⟨g, 0, none⟩ i cap (entCells (xs.take i)) (by rw [hlt, hs])
  (fun j v hj => by
   rw [Addr.add_lit]
   have hj1 : j < (entCells (xs.take i)).length := (List.getElem?_eq_some_iff.1 hj).1
   rw [<- entCells_take, List.getElem?_take_of_lt (by omega)] at hj
   have hj2 : j < (entCells xs).length := (List.getElem?_eq_some_iff.1 hj).1
   simp only [World.cell?, hg]
   simp [List.getElem?_append_left hj2, hj])
  (xs.length + 1 - i) (by omega) (by rw [hs]; omega) (by omega) (by omega) (by rw [hb]; omega) (growslice_fits (by omega) (by rw [hb]; omega))
 rw [show i + (xs.length + 1 - i) = xs.length + 1 by omega, show ((xs.length + 1 - i : Nat) : Int) = (xs.length : Int) + 1 - (i : Int) by omega] at this
 rw [this]
 have e : (entCells (xs.take i)).toArray ++ Builtin.zeroCells (entV 0 0 0).cells (xs.length + 1 - i) ++ Builtin.zeroCells (entV 0 0 0).cells (grownCap w (xs.length + 1) cap 199 - (xs.length + 1)) = (entCells (xs.take i) ++ midZ w i xs.length cap).toArray := by
  apply Array.ext'
  simp [midZ]
 rw [e]
set_option maxHeartbeats 400000 in
set_option maxRecDepth 100000 in
theorem insert_mid_grow (w : World) (g i cap vb : Nat) (xs : List Ent) (sp : List Value) (x : Ent) (hv : OneAt w vb x) (hi : i < xs.length) (hn : xs.length <= 1000000) (hnc : xs.length <= cap)
  (hg : w.heap[g]? = some (.cells (entCells xs ++ sp).toArray 199 (0, 0))) (hroom : cap < xs.length + 1) :
  Calls Tryz.prog 183 #[.slice (some ⟨g, 0, none⟩) xs.length cap, .int .i64 i, vA vb] w fun e w1 =>
   e = .returned (.slice (some ⟨w.heap.size, 0, none⟩) (xs.length + 1) (grownCap w (xs.length + 1) cap 199)) /\ Below w.heap.size w w1 /\ w1.heap.size = w.heap.size + 1 ∧
   w1.heap[w.heap.size]? = some (.cells (entCells (xs.take i ++ x :: xs.drop i) ++ (midZ w i xs.length cap).drop (3 + (xs.length - i) * 3)).toArray 199 (0, 0)) := by
 have hlt : (xs.take i).length = i := by rw [List.length_take, Nat.min_eq_left (by omega)]
 have hgw := (Array.getElem?_eq_some_iff.1 hg).1
 have hvw := (Array.getElem?_eq_some_iff.1 (show w.heap[vb]? = _ from hv)).1
 have hmz := midZ_length w i xs.length cap (by omega)
 have hge := grownCap_ge w (xs.length + 1) cap 199
 have hap := ins_run_mid w g i cap xs sp hi hn hg hroom
 -- behind the append
 obtain ⟨W1, hW1⟩ : ∃ W1, W1 = w.drew.alloc (.cells (entCells (xs.take i) ++ midZ w i xs.length cap).toArray 199) := ⟨_, rfl⟩
 rw [<- hW1] at hap
 have hB1 : Below w.heap.size w W1 := by rw [hW1]; exact (Below.refl _ w).drew.alloc (Nat.le_refl _) _
 have hs1 : W1.heap.size = w.heap.size + 1 := by rw [hW1]; simp
 have hg1 : W1.heap[w.heap.size]? = some (.cells (entCells (xs.take i) ++ midZ w i xs.length cap).toArray 199 (0, 0)) := by rw [hW1]; exact heap_alloc_new w.drew _
 have hv1 : OneAt W1 vb x := (hB1.block vb hvw).trans hv
 -- the entry is laid
 have hcp1 := fun ty dLen dCap (hd : 0 < dLen) => copyAt W1 w.heap.size (xs.take i) [x] (midZ w i xs.length cap) hg1 ty (i * 3) dLen dCap ⟨vb, 0, none⟩ 1 1 (by rw [hlt]) (by simp only [Nat.min_def, List.length_singleton]; split <;> omega) (by have := hv1.news; simpa [entCells] using this) (by simp only [List.length_singleton]; omega)
 obtain ⟨W2, hW2⟩ : ∃ W2, W2 = W1.setRow w.heap.size (entCells (xs.take i ++ [x]) ++ (midZ w i xs.length cap).drop ([x].length * 3)).toArray := ⟨_, rfl⟩
 rw [<- hW2] at hcp1
 have hB2 : Below w.heap.size w W2 := by rw [hW2]; exact hB1.trans ⟨rfl, rfl, rfl, by simp [World.setRow], fun k hk => setRow_other W1 _ k _ (by omega)⟩
 have hs2 : W2.heap.size = w.heap.size + 1 := by rw [hW2]; simpa [World.setRow] using hs1
 have hg2 : W2.heap[w.heap.size]? = some (.cells (entCells (xs.take i ++ [x]) ++ (midZ w i xs.length cap).drop ([x].length * 3)).toArray 199 (0, 0)) := by rw [hW2]; exact setRow_heap W1 _ _ _ _ _ hg1
 -- the rest is laid behind it
 have hgo : W2.drew.heap[g]? = some (.cells (entCells xs ++ sp).toArray 199 (0, 0)) := (hB2.block g hgw).trans hg
 have hcp2 := fun ty dLen dCap sLen sCap (hd : Nat.min sLen dLen = xs.length - i) => copyAt W2.drew w.heap.size (xs.take i ++ [x]) (xs.drop i) _ hg2 ty ((i + 1) * 3) dLen dCap ⟨g, i * 3, none⟩ sLen sCap (by rw [List.length_append, hlt]; rfl) (by rw [List.length_drop]; exact hd) (part_news hgo rfl i) (by rw [List.length_drop, List.length_drop, List.length_singleton]; omega)
 rw [List.length_drop, List.drop_drop] at hcp2
 obtain ⟨W3, hW3⟩ : ∃ W3, W3 = W2.drew.setRow w.heap.size (entCells (xs.take i ++ [x] ++ xs.drop i) ++ (midZ w i xs.length cap).drop ([x].length * 3 + (xs.length - i) * 3)).toArray := ⟨_, rfl⟩
 rw [<- hW3] at hcp2
 have fin : Hid (Below w.heap.size w W3 /\ W3.heap.size = w.heap.size + 1 /\ W3.heap[w.heap.size]? = some (.cells (entCells (xs.take i ++ x :: xs.drop i) ++ (midZ w i xs.length cap).drop (3 + (xs.length - i) * 3)).toArray 199 (0, 0))) := by
  refine ⟨?_, ?_, ?_⟩
  ·rw [hW3]; exact hB2.drew.trans ⟨rfl, rfl, rfl, by simp [World.setRow], fun k hk => setRow_other W2.drew _ k _ (by omega)⟩
  ·rw [hW3]; simpa [World.setRow] using hs2
  ·rw [hW3]
   have := setRow_heap W2.drew w.heap.size _ (entCells (xs.take i ++ [x] ++ xs.drop i) ++ (midZ w i xs.length cap).drop ([x].length * 3 + (xs.length - i) * 3)).toArray 199 _ hg2
   simpa using this
 clear hW3 hgo hg2 hs2 hB2 hW2 hv1 hg1 hs1 hB1 hW1 hg hv hmz
 generalize xs.length = n at *
 generalize grownCap w (n + 1) cap 199 = C at *
 have hb0 : (0 : Int) <= (i : Int) := by omega
 have hb1 : (i : Int) <= (n : Int) := by omega
 have hb2 : ((i : Int) == (n : Int)) = false := by simp; omega
 have hb3 : ¬ (cap = i) := by omega
 have hb4 : ¬ (C = i + 1) := by omega
 have hb8 : ¬ (C = i) := by omega
 have hw1 : IntKind.i64.wrap ((i : Int) + 1) = (i : Int) + 1 := by rw [IntKind.wrap_i64]; omega
 have hb5 : (0 : Int) <= (i : Int) + 1 := by omega
 have hb6 : (i : Int) + 1 <= (n : Int) + 1 := by omega
 have htn : ((i : Int) + 1).toNat = i + 1 := by omega
 have hb7 : (i : Int) <= (n : Int) + 1 := by omega
 have hap' := hide hap
 have hq1 := fun ty => hcp1 ty (n + 1 - i) (C - i) (by omega)
 have hq2 := fun ty => hcp2 ty (n - i) (C - (i + 1)) (n - i) (cap - i) (Nat.min_self _)
 clear hap hcp1 hcp2
 go_enter Tryz.func183, Tryz.ntmps183
 go_wp2_with (at_builtin; refine wpList_appendB rfl (.tmp 34) (.tmp 39) 181 3 rfl (.slice (some ⟨g, 0, none⟩) i cap) (.int .i64 ((n : Int) + 1 - (i : Int))) rfl rfl (.slice (some ⟨w.heap.size, 0, none⟩) (n + 1) C) W1 (hap'.out _) ?_)
 clear hq1
 go_region
 go_wp2
 go_ret
 exact ⟨rfl, fin.out⟩
end Go.Proofs.YtglbamalagacgaaGreat

namespace Go.Proofs.YtglbamalagacgaaGreat
open Go.RowKit
def RowTo (w w' : World) (v v' : Value) (xs : List Ent) : Prop :=
 RowAt w' v' xs /\ w.grownBy w' v.ownBlock /\ (v'.ownBlock = v.ownBlock ∨ ∃ g, v'.ownBlock = some g /\ w.heap.size <= g)
theorem grownBy_below {w w' : World} (h : Below w.heap.size w w') (row : Option Nat) : w.grownBy w' row :=
 ⟨h.os, h.tape, h.output, h.size, fun k hk _ => h.block k hk⟩
theorem grownBy_setRow {w : World} (g : Nat) (c : Array Value) : w.grownBy (w.drew.setRow g c) (some g) :=
 ⟨rfl, rfl, rfl, by simp [World.setRow], fun k _ hk => setRow_other w.drew g k c (fun e => hk (by rw [e]))⟩
theorem grownBy_setRow' {w : World} (g : Nat) (c : Array Value) : w.grownBy (w.setRow g c) (some g) :=
 ⟨rfl, rfl, rfl, by simp [World.setRow], fun k _ hk => setRow_other w g k c (fun e => hk (by rw [e]))⟩
theorem growZ_length (w : World) (need old : Nat) : (growZ w need old).length = (grownCap w need old 199 - need) * 3 := zeroCells_length _
theorem insert_any (w : World) (v : Value) (xs : List Ent) (i vb : Nat) (x : Ent) (hrow : RowAt w v xs) (hv : OneAt w vb x) (hne : v.ownBlock ≠ some vb) (hi : i <= xs.length) (hn : xs.length <= 1000000) :
  Calls Tryz.prog 183 #[v, .int .i64 i, vA vb] w fun e w' => ∃ v', e = .returned v' /\ RowTo w w' v v' (xs.take i ++ x :: xs.drop i) := by
 have hvw := (Array.getElem?_eq_some_iff.1 (show w.heap[vb]? = _ from hv)).1
 have hM : (1000001 : Nat) <= maxLen := by unfold maxLen; omega
 rcases hrow with ⟨rfl, rfl⟩ | ⟨g, cap, sp, rfl, hg, hl, hnc, hcm⟩
 ·obtain rfl : i = 0 := by simpa using hi
  refine (insert_nil w vb x hv).mono ?_
  rintro e w' ⟨rfl, rfl⟩
  refine ⟨_, rfl, .inr ⟨w.heap.size, _, growZ w 1 0, rfl, heap_alloc_new w.drew _, ?_, grownCap_ge w 1 0 _, grownCap_le_maxLen w 1 0 _ (by omega)⟩, grownBy_below ((Below.refl _ w).drew.alloc (Nat.le_refl _) _) _, .inr ⟨_, rfl, Nat.le_refl _⟩⟩
  have := grownCap_ge w 1 0 199
  rw [List.length_append, growZ_length, entCells_length]
  simp
  omega
 ·have hgw := (Array.getElem?_eq_some_iff.1 hg).1
  have hlx := entCells_length xs
  have hl' := hl
  rw [List.length_append, hlx] at hl'
  by_cases hend : i = xs.length
  ·subst hend
   rw [List.take_length, List.drop_length]
   by_cases hroom : xs.length + 1 <= cap
   ·refine (insert_end w g xs.length cap vb hn hnc hcm _ _ (ins_run_room w g xs.length cap vb xs sp x hv rfl hg hl hroom)).mono ?_
    rintro e w' ⟨rfl, rfl⟩
    refine ⟨_, rfl, .inr ⟨g, cap, sp.drop 3, by simp, setRow_heap w g _ _ _ _ hg, ?_, by simpa using hroom, hcm⟩, grownBy_setRow' g _, .inl rfl⟩
    rw [List.length_append, entCells_length, List.length_drop, List.length_append, List.length_singleton]
    omega
   ·refine (insert_end w g xs.length cap vb hn hnc hcm _ _ (ins_run_grow w g xs.length cap vb xs sp x hv rfl hn hg (by omega))).mono ?_
    rintro e w' ⟨rfl, rfl⟩
    have hge := grownCap_ge w (xs.length + 1) cap 199
    refine ⟨_, rfl, .inr ⟨w.heap.size, grownCap w (xs.length + 1) cap 199, growZ w (xs.length + 1) cap, by simp, heap_alloc_new w.drew _, ?_, by simpa using hge, grownCap_le_maxLen w _ _ _ (by omega)⟩, grownBy_below ((Below.refl _ w).drew.alloc (Nat.le_refl _) _) _, .inr ⟨_, rfl, Nat.le_refl _⟩⟩
    rw [List.length_append, growZ_length, entCells_length, List.length_append, List.length_singleton]
    omega
  ·have hi' : i < xs.length := by omega
   have hlen : (xs.take i ++ x :: xs.drop i).length = xs.length + 1 := by simp; omega
   by_cases hroom : xs.length + 1 <= cap
   ·refine (insert_mid_room w g i cap vb xs sp x hv (fun e => hne (by rw [e]; rfl)) hi' hn hcm hg hl hroom).mono ?_
    rintro e w' ⟨rfl, rfl⟩
    refine ⟨_, rfl, .inr ⟨g, cap, sp.drop 3, by rw [hlen], setRow_heap w.drew g _ _ _ _ hg, ?_, by rw [hlen]; exact hroom, hcm⟩, grownBy_setRow g _, .inl rfl⟩
    rw [List.length_append, entCells_length, List.length_drop, hlen]
    omega
   ·refine (insert_mid_grow w g i cap vb xs sp x hv hi' hn hnc hg (by omega)).mono ?_
    rintro e w' ⟨rfl, hB, hs, hh⟩
    have hge := grownCap_ge w (xs.length + 1) cap 199
    have hmz := midZ_length w i xs.length cap (by omega)
    refine ⟨_, rfl, .inr ⟨w.heap.size, _, _, by rw [hlen], hh, ?_, by rw [hlen]; exact hge, grownCap_le_maxLen w _ _ _ (by omega)⟩, grownBy_below hB _, .inr ⟨_, rfl, Nat.le_refl _⟩⟩
    rw [List.length_append, entCells_length, List.length_drop, hlen]
    omega
theorem del_append (w : World) (g i cap : Nat) (xs : List Ent) (sp : List Value) (hi : i < xs.length) (hg : w.heap[g]? = some (.cells (entCells xs ++ sp).toArray 199 (0, 0))) (hl : (entCells xs ++ sp).length = cap * 3) (_hnc : xs.length <= cap)
  (ad : Addr) (had : i + 1 < xs.length -> ad = ⟨g, (i + 1) * 3, none⟩) (ty : TypeId) (sc : Nat) :
  (Builtin.append_ #[181, 181] ty #[.slice (some ⟨g, 0, none⟩) i cap, .slice (some ad) (xs.length - (i + 1)) sc]).run Tryz.prog w =
   .ok (.slice (some ⟨g, 0, none⟩) (xs.length - 1) cap) (w.setRow g (entCells (xs.take i ++ xs.drop (i + 1)) ++ (entCells (xs.drop (xs.length - 1)) ++ sp)).toArray) := by
 obtain ⟨inf, hinf, hz, hs, hb⟩ := entInfo
 have hlx := entCells_length xs
 rw [List.length_append, hlx] at hl
 have hd : (entCells (xs.drop (i + 1))).length = (xs.length - (i + 1)) * 3 := by rw [entCells_length, List.length_drop]
 have := run_append_room (P := Tryz.prog) w 181 ty 199 inf Tryz.underlying181 hinf g i cap _ hg ad (xs.length - (i + 1)) sc (entCells (xs.drop (i + 1))) (by rw [hd, hs])
  (fun j v hj => by
   have hj1 : j < (entCells (xs.drop (i + 1))).length := (List.getElem?_eq_some_iff.1 hj).1
   rw [had (by omega)]
   exact part_news hg rfl (i + 1) j v hj)
  (entCells_one _) (by omega) (by rw [hs, hd, List.size_toArray, List.length_append, hlx]; omega)
 rw [this, hs, show i + (xs.length - (i + 1)) = xs.length - 1 by omega]
 have e : List.take (i * 3) (entCells xs ++ sp).toArray.toList ++ entCells (xs.drop (i + 1)) ++ List.drop (i * 3 + (entCells (xs.drop (i + 1))).length) (entCells xs ++ sp).toArray.toList = entCells (xs.take i ++ xs.drop (i + 1)) ++ (entCells (xs.drop (xs.length - 1)) ++ sp) := by
  show List.take (i * 3) (entCells xs ++ sp) ++ entCells (xs.drop (i + 1)) ++ List.drop (i * 3 + (entCells (xs.drop (i + 1))).length) (entCells xs ++ sp) = _
  rw [List.take_append_of_le_length (by omega), entCells_take, hd, show i * 3 + (xs.length - (i + 1)) * 3 = (xs.length - 1) * 3 by omega, List.drop_append_of_le_length (by omega), entCells_drop, entCells_append]
 rw [e]
theorem zero_one : (Builtin.zeroCells (entV 0 0 0).cells 1).toList = Ent.z.cells := by simp [Builtin.zeroCells, Value.cells, Ent.cells, Ent.z, List.range_succ]
theorem del_clear (w : World) (g n : Nat) (ys : List Ent) (y : List Value) (sp : List Value) (hg : w.heap[g]? = some (.cells (entCells ys ++ (y ++ sp)).toArray 199 (0, 0))) (hy : y.length = 3) (hn : n = ys.length) (ty : TypeId) (c : Nat) :
  (Builtin.clear_ #[181] ty #[.slice (some ⟨g, n * 3, none⟩) 1 c]).run Tryz.prog w = .ok (.tuple #[]) (w.setRow g (entCells ys ++ (Ent.z.cells ++ sp)).toArray) := by
 subst hn
 have hlx := entCells_length ys
 have hz3 : Ent.z.cells.length = 3 := rfl
 have := run_clearS (P := Tryz.prog) (w := w) 181 ty 199 (entV 0 0 0) Tryz.underlying181 (fun w => by obtain ⟨i, hi, hz, _⟩ := entInfo; simp [zeroValue, typeInfo, hi, hz]) g (ys.length * 3) 1 c (by omega) _ 199 Ent.z.cells hg zero_one
  (by rw [List.size_toArray, List.length_append, List.length_append, hlx, hy, hz3]; omega) (by intro v hv; simp [Ent.cells] at hv; rcases hv with rfl | rfl | rfl <;> rfl)
 rw [this]
 have e : List.take (ys.length * 3) (entCells ys ++ (y ++ sp)).toArray.toList ++ Ent.z.cells ++ List.drop (ys.length * 3 + Ent.z.cells.length) (entCells ys ++ (y ++ sp)).toArray.toList = entCells ys ++ (Ent.z.cells ++ sp) := by
  show List.take (ys.length * 3) (entCells ys ++ (y ++ sp)) ++ Ent.z.cells ++ List.drop (ys.length * 3 + Ent.z.cells.length) (entCells ys ++ (y ++ sp)) = _
  rw [List.take_left' hlx, <- hlx, drop_past, hz3, <- hy, List.drop_left, List.append_assoc]
 rw [e]
set_option maxHeartbeats 400000 in
set_option maxRecDepth 100000 in
theorem delete_row (w : World) (g i cap : Nat) (xs : List Ent) (sp : List Value) (hi : i < xs.length) (hn : xs.length <= 1000000) (hnc : xs.length <= cap) (hcm : cap <= maxLen)
  (hg : w.heap[g]? = some (.cells (entCells xs ++ sp).toArray 199 (0, 0))) (hl : (entCells xs ++ sp).length = cap * 3) :
  Calls Tryz.prog 184 #[.slice (some ⟨g, 0, none⟩) xs.length cap, .int .i64 i, .int .i64 ((i : Int) + 1)] w fun e w1 =>
   e = .returned (.slice (some ⟨g, 0, none⟩) (xs.length - 1) cap) /\ w1 = w.drew.setRow g (entCells (xs.take i ++ xs.drop (i + 1)) ++ (Ent.z.cells ++ sp)).toArray := by
 have hap := fun ad had ty sc => del_append w.drew g i cap xs sp hi hg hl hnc ad had ty sc
 obtain ⟨W1, hW1⟩ : ∃ W1, W1 = w.drew.setRow g (entCells (xs.take i ++ xs.drop (i + 1)) ++ (entCells (xs.drop (xs.length - 1)) ++ sp)).toArray := ⟨_, rfl⟩
 rw [<- hW1] at hap
 have hg1 : W1.heap[g]? = some (.cells (entCells (xs.take i ++ xs.drop (i + 1)) ++ (entCells (xs.drop (xs.length - 1)) ++ sp)).toArray 199 (0, 0)) := by rw [hW1]; exact setRow_heap w.drew g _ _ _ _ hg
 have hcl := fun ty c => del_clear W1 g (xs.length - 1) (xs.take i ++ xs.drop (i + 1)) _ sp hg1 (by rw [entCells_length, List.length_drop]; omega) (by simp; omega) ty c
 have hfin : Hid (W1.setRow g (entCells (xs.take i ++ xs.drop (i + 1)) ++ (Ent.z.cells ++ sp)).toArray = w.drew.setRow g (entCells (xs.take i ++ xs.drop (i + 1)) ++ (Ent.z.cells ++ sp)).toArray) := by unfold Hid; rw [hW1, setRow_setRow]
 unfold maxLen at hcm
 generalize hN : xs.length = n at *
 have hb0 : (0 : Int) <= (i : Int) := by omega
 have hb1 : (i : Int) <= (cap : Int) := by omega
 have hb5 : (0 : Int) <= (i : Int) + 1 := by omega
 have hb6 : (i : Int) + 1 <= (n : Int) := by omega
 have htn : ((i : Int) + 1).toNat = i + 1 := by omega
 have hb7 : ((i : Int) == (i : Int) + 1) = false := by simp; omega
 have hcl' := fun ty => hcl ty (cap - (n - 1))
 have hb8 : ¬ (cap = n - 1) := by omega
 have hb9 : n - (n - 1) = 1 := by omega
 have hb10 : (n : Int) - 1 <= (n : Int) := by omega
 by_cases hcj : cap = i + 1
 ·obtain rfl : n = i + 1 := by omega
  subst hcj
  have hd : xs.drop (i + 1) = [] := List.drop_eq_nil_iff.2 (by omega)
  have hx : entCells xs ++ sp = entCells (xs.take i) ++ (entCells (xs.drop i) ++ sp) := by rw [<- List.append_assoc, <- entCells_append, List.take_append_drop]
  rw [hx] at hg
  have hc2 := fun ty => del_clear w.drew g i (xs.take i) _ sp hg (by rw [entCells_length, List.length_drop]; omega) (by rw [List.length_take]; omega) ty 1
  rw [hd, List.append_nil]
  have hb11 : (i : Int) <= (i : Int) + 1 := by omega
  clear hN hW1 hg1 hg hl hap hcl hcl' hb1 hb6 hb8 hb9 hb10 hd hx hfin
  go_enter Tryz.func184, Tryz.ntmps184
  go_wp2
  go_region
  go_wp2
  go_ret
  exact ⟨rfl, rfl⟩
 ·have hq := hide fun ty sc => hap ⟨g, (i + 1) * 3, none⟩ (fun _ => rfl) ty sc
  clear hN hW1 hg1 hg hl hap hcl
  go_enter Tryz.func184, Tryz.ntmps184
  go_wp2
  go_region_law (refine step_appendB rfl (.tmp 22) (.tmp 25) 181 181 rfl (.slice (some ⟨g, 0, none⟩) i cap) (.slice (some ⟨g, (i + 1) * 3, none⟩) (n - (i + 1)) (cap - (i + 1))) (by simp [Act.eval, Act.put]) (by simp [Act.eval, Act.put]) (.slice (some ⟨g, 0, none⟩) (n - 1) cap) W1 (hq.out _ _) ?_)
  go_wp2
  go_ret
  exact ⟨rfl, hfin.out⟩
theorem delete_any (w : World) (v : Value) (xs : List Ent) (i : Nat) (hrow : RowAt w v xs) (hi : i < xs.length) (hn : xs.length <= 1000000) :
  Calls Tryz.prog 184 #[v, .int .i64 i, .int .i64 ((i : Int) + 1)] w fun e w' => ∃ v', e = .returned v' /\ RowTo w w' v v' (xs.take i ++ xs.drop (i + 1)) := by
 rcases hrow with ⟨rfl, rfl⟩ | ⟨g, cap, sp, rfl, hg, hl, hnc, hcm⟩
 ·simp at hi
 ·have hlx := entCells_length xs
  have hl' := hl
  rw [List.length_append, hlx] at hl'
  have hlen : (xs.take i ++ xs.drop (i + 1)).length = xs.length - 1 := by simp; omega
  refine (delete_row w g i cap xs sp hi hn hnc hcm hg hl).mono ?_
  rintro e w' ⟨rfl, rfl⟩
  refine ⟨_, rfl, .inr ⟨g, cap, Ent.z.cells ++ sp, by rw [hlen], setRow_heap w.drew g _ _ _ _ hg, ?_, by rw [hlen]; omega, hcm⟩, grownBy_setRow g _, .inl rfl⟩
  rw [List.length_append, entCells_length, hlen, List.length_append, show Ent.z.cells.length = 3 from rfl]
  omega
end Go.Proofs.YtglbamalagacgaaGreat

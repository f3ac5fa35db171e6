import Derived.Test.YtglbamalagacgaaGreatA4
import Derived.Test.YtglbamalagacgaaGreatA5
import Derived.Deep.Heap
namespace Go.Proofs.YtglbamalagacgaaGreat.R
open Go.RowKit
abbrev zR : Obj := .cells #[.int .i64 0, .int .i64 0, .int .i64 0] 90
def rteO (o : Option Go.Proofs.YtglbamalagacgaaGreat.Ent) : Value := match o with
 | some r => rteV r.a r.l r.n
 | none => rteV 0 0 0
theorem rteO_some (x : Go.Proofs.YtglbamalagacgaaGreat.Ent) : rteO (some x) = rteV x.a x.l x.n := rfl
set_option maxHeartbeats 400000 in
theorem rLast_any (st : Nat) (v : Value) (xs : List Ent) (b : Int) (w : World) (hS : StoreAt w st v xs) :
  Calls Tryz.prog 145 #[ptrV st, .int .i64 b] w fun r w' => Below w.heap.size w w' /\ r = .returned (.tuple #[rteO (lastR xs b), .bool (lastR xs b).isSome]) := by
 have hB1 : Below w.heap.size w (w.alloc zR) := (Below.refl _ w).alloc (Nat.le_refl _) _
 go_enter Tryz.func145, Tryz.ntmps145
 go_wp2_with fail
 refine (find_any st v xs b _ (hS.later hB1)).mono ?_
 rintro r w1 ⟨hB, i, hp, rfl⟩
 have hg := place_last hS.2.2.2.1 hp
 have hB2 := hB1.trans (hB.mono (by simp))
 have hS1 := hS.later hB2
 have c1 := hS1.c1
 have hwl : w.heap.size < w1.heap.size := by have := hB.size; simp at this; omega
 have r0 : w1.cell? ⟨w.heap.size, 0, none⟩ = some (.int .i64 0) := (hB.cell (p := ⟨w.heap.size, 0, none⟩) (by simp)).trans (by simp [go_sem])
 have r1 : w1.cell? ⟨w.heap.size, 1, none⟩ = some (.int .i64 0) := (hB.cell (p := ⟨w.heap.size, 1, none⟩) (by simp)).trans (by simp [go_sem])
 have r2 : w1.cell? ⟨w.heap.size, 2, none⟩ = some (.int .i64 0) := (hB.cell (p := ⟨w.heap.size, 2, none⟩) (by simp)).trans (by simp [go_sem])
 have rf : ∀ o, w1.frozen? ⟨w.heap.size, o, none⟩ = false := fun o => (hB.frozen (p := ⟨w.heap.size, o, none⟩) (by simp)).trans (by simp [go_sem])
 have row : ∀ (j : Nat), j < xs.length -> (∃ g cap, v = .slice (some ⟨g, 0, none⟩) xs.length cap /\ EntsAt w1 g xs) := fun j hj => by
  rcases hS1.2.1 with ⟨rfl, rfl⟩ | ⟨g, cap, sp, rfl, hgg, hl, hnc, hcm⟩
  ·simp at hj
  ·exact ⟨g, cap, rfl, RowAt.ents (cap := cap) (.inr ⟨g, cap, sp, rfl, hgg, hl, hnc, hcm⟩)⟩
 have hpi := hp.1
 have hlim := hS.2.2.2.2
 cases hf : FoundAt xs b i with
 | true =>
  rw [hf] at hg
  simp only [if_true] at hg
  have HG := hide hg
  have hil : i < xs.length := by
   unfold FoundAt at hf
   rcases Nat.lt_or_ge i xs.length with h | h
   ·exact h
   ·rw [List.getElem?_eq_none h] at hf; cases hf
  obtain ⟨g, cap, rfl, hx⟩ := row i hil
  obtain ⟨x0, x1, x2, x3⟩ := hx i hil
  have i0 : (0 : Int) <= (i : Int) := by omega
  have i1 : (i : Int) < (xs.length : Int) := by omega
  have i2 : ¬ ((i : Int) < 0) := by omega
  clear hg hf hp hS1 hx hS hB row
  generalize xs[i]?.getD Ent.z = y at *
  go_wp2
  exact bodyPost_ret (v := .tuple #[rteV y.a y.l y.n, .bool true]) (by simp [results, Tryz.results145, go_sem, *]) rfl ⟨(by repeat (first | exact Below.refl _ _ | refine below_drewN ?_ _ | refine Below.drew ?_ | refine Below.trans ?_ (Below.mono (by assumption) ?_) | refine Below.alloc ?_ ?_ _ | refine Below.setCell ?_ ?_ _ | omega | (simp; omega) | simp)), by rw [HG.out]; rfl⟩
 | false =>
  rw [hf] at hg
  cases i with
  | zero =>
   simp only [Bool.false_eq_true, if_false, if_true] at hg
   have HG := hide hg
   clear hg hf hp hS1 hS hB row c1
   go_wp2
   exact bodyPost_ret (v := .tuple #[rteV 0 0 0, .bool false]) (by simp [results, Tryz.results145, go_sem, *]) rfl ⟨(by repeat (first | exact Below.refl _ _ | refine below_drewN ?_ _ | refine Below.drew ?_ | refine Below.trans ?_ (Below.mono (by assumption) ?_) | refine Below.alloc ?_ ?_ _ | refine Below.setCell ?_ ?_ _ | omega | (simp; omega) | simp)), by rw [HG.out]; rfl⟩
  | succ i =>
   simp only [Bool.false_eq_true, if_false, Nat.add_one_ne_zero, Nat.add_sub_cancel] at hg
   have HG := hide hg
   have hil : i < xs.length := by omega
   obtain ⟨g, cap, rfl, hx⟩ := row i hil
   obtain ⟨x0, x1, x2, x3⟩ := hx i hil
   have i0 : (0 : Int) <= (i : Int) := by omega
   have i1 : (i : Int) < (xs.length : Int) := by omega
   have i2 : ¬ ((i : Int) < 0) := by omega
   have i3 : IntKind.i64.wrap (((i + 1 : Nat) : Int) - 1) = (i : Int) := by rw [IntKind.wrap_i64]; omega
   clear hg hf hp hS1 hx hS hB row hpi
   generalize xs[i]?.getD Ent.z = y at *
   go_wp2
   exact bodyPost_ret (v := .tuple #[rteV y.a y.l y.n, .bool true]) (by simp [results, Tryz.results145, go_sem, *]) rfl ⟨(by repeat (first | exact Below.refl _ _ | refine below_drewN ?_ _ | refine Below.drew ?_ | refine Below.trans ?_ (Below.mono (by assumption) ?_) | refine Below.alloc ?_ ?_ _ | refine Below.setCell ?_ ?_ _ | omega | (simp; omega) | simp)), by rw [HG.out]; rfl⟩
set_option maxHeartbeats 400000 in
theorem rLen_any (st : Nat) (v : Value) (xs : List Ent) (w : World) (hS : StoreAt w st v xs) :
  Calls Tryz.prog 206 #[ptrV st] w fun r w' => w' = w /\ r = .returned (.int .i64 xs.length) := by
 have c1 := hS.c1
 rcases hS.2.1 with ⟨rfl, rfl⟩ | ⟨g, cap, sp, rfl, hgg, hl, hnc, hcm⟩
 ·clear hS
  go_enter Tryz.func206, Tryz.ntmps206
  go_wp2
  go_ret
  exact ⟨rfl, rfl⟩
 ·clear hS hgg hl
  go_enter Tryz.func206, Tryz.ntmps206
  go_wp2
  go_ret
  exact ⟨rfl, rfl⟩
theorem found_lt {xs : List Ent} {b : Int} {i : Nat} (hf : FoundAt xs b i = true) : i < xs.length := by
 unfold FoundAt at hf
 rcases Nat.lt_or_ge i xs.length with h | h
 ·exact h
 ·rw [List.getElem?_eq_none h] at hf; cases hf
theorem found_key {xs : List Ent} {b : Int} {i : Nat} (hf : FoundAt xs b i = true) : (xs[i]?.getD Ent.z).k = b := by
 have h := found_lt hf
 unfold FoundAt at hf
 rw [List.getElem?_eq_getElem h] at hf ⊢
 simpa using hf
theorem entCells_set (xs : List Ent) (r : Go.Proofs.YtglbamalagacgaaGreat.Ent) : ∀ (i : Nat), i < xs.length -> (((entCells xs).set (i * 4 + 1) (.int .i64 r.a)).set (i * 4 + 2) (.int .i64 r.l)).set (i * 4 + 3) (.int .i64 r.n) = entCells (xs.take i ++ mkE (xs[i]?.getD Ent.z).k r :: xs.drop (i + 1)) := by
 induction xs with
 | nil => intro i h; simp at h
 | cons x xs ih =>
  intro i h
  cases i with
  | zero => simp [entCells, Ent.cells, mkE]
  | succ i =>
   have := ih i (by simpa using h)
   rw [entCells_cons, show (i + 1) * 4 + 1 = (i * 4 + 1) + 1 + 1 + 1 + 1 by omega, show (i + 1) * 4 + 2 = (i * 4 + 2) + 1 + 1 + 1 + 1 by omega, show (i + 1) * 4 + 3 = (i * 4 + 3) + 1 + 1 + 1 + 1 by omega]
   simp only [Ent.cells, List.cons_append, List.nil_append, List.set_cons_succ, this]
   simp [entCells, Ent.cells, mkE]
def StoreF (w : World) (st : Nat) (xs : List Ent) (F : List Nat) : Prop := ∃ v, StoreAt w st v xs /\ F = st :: v.ownBlock.toList
theorem StoreF.lt {w : World} {st : Nat} {xs : List Ent} {F : List Nat} (h : StoreF w st xs F) : ∀ k ∈ F, k < w.heap.size := by
 obtain ⟨v, hS, rfl⟩ := h
 intro k hk
 rcases List.mem_cons.1 hk with rfl | hk
 ·exact hS.lt
 ·exact hS.2.1.lt k (by simpa using hk)
theorem StoreF.kept {w w' : World} {st : Nat} {xs : List Ent} {F : List Nat} (h : StoreF w st xs F) (hk : ∀ k ∈ F, w'.heap[k]? = w.heap[k]?) : StoreF w' st xs F := by
 obtain ⟨v, hS, rfl⟩ := h
 exact ⟨v, ⟨(hk st (by simp)).trans hS.1, hS.2.1.kept fun g hg => hk g (by simp [hg]), hS.2.2⟩, rfl⟩
theorem StoreF.later {w w' : World} {st : Nat} {xs : List Ent} {F : List Nat} (h : StoreF w st xs F) (hB : Below w.heap.size w w') : StoreF w' st xs F := h.kept fun k hk => hB.block k (h.lt k hk)
theorem StoreF.cells {w : World} {st : Nat} {xs : List Ent} {F : List Nat} (h : StoreF w st xs F) : ∀ k ∈ F, ∃ o, w.heap[k]? = some o /\ o.isCells = true := by
 obtain ⟨v, hS, rfl⟩ := h
 intro k hk
 rcases List.mem_cons.1 hk with rfl | hk
 ·exact ⟨_, hS.1, rfl⟩
 ·rcases hS.2.1 with ⟨rfl, _⟩ | ⟨g, cap, sp, rfl, hg, _⟩
  ·simp [Value.ownBlock] at hk
  ·simp [Value.ownBlock] at hk; subst hk; exact ⟨_, hg, rfl⟩
theorem StoreF.sorted {w : World} {st : Nat} {xs : List Ent} {F : List Nat} (h : StoreF w st xs F) : Sorted xs := by
 obtain ⟨v, hS, _⟩ := h
 exact hS.2.2.2.1
end Go.Proofs.YtglbamalagacgaaGreat.R

namespace Go.Proofs.YtglbamalagacgaaGreat.R
open Go.RowKit
theorem RowAt.shape {w : World} {v : Value} {xs : List Ent} (h : RowAt w v xs) : ∃ a n c, v = .slice a n c := by
 rcases h with ⟨rfl, _⟩ | ⟨g, cap, sp, rfl, _⟩
 ·exact ⟨_, _, _, rfl⟩
 ·exact ⟨_, _, _, rfl⟩
theorem StoreAt.under {W W' : World} {n st : Nat} {v : Value} {xs : List Ent} (h : StoreAt W st v xs) (hB : Below n W W') (hst : st < n) (hv : ∀ g, v.ownBlock = some g -> g < n) : StoreAt W' st v xs :=
 ⟨(hB.block st hst).trans h.1, h.2.1.kept fun g hg => hB.block g (hv g hg), h.2.2⟩
theorem Only.under {F : List Nat} {w W W' : World} (h : Only F w W) (hB : Below w.heap.size W W') : Only F w W' :=
 ⟨hB.os.trans h.os, hB.tape.trans h.tape, hB.output.trans h.output, Nat.le_trans h.size hB.size, fun k hk hn => (hB.block k hk).trans (h.block k hk hn)⟩
theorem StoreAt.aside {W W' : World} {b st : Nat} {v : Value} {xs : List Ent} (h : StoreAt W st v xs) (hk : ∀ k, k < W.heap.size -> k ≠ b -> W'.heap[k]? = W.heap[k]?) (hst : st ≠ b) (hv : v.ownBlock ≠ some b) : StoreAt W' st v xs :=
 ⟨(hk st h.lt hst).trans h.1, h.2.1.kept fun g hg => hk g (h.2.1.lt g hg) (fun e => hv (by rw [hg, e])), h.2.2⟩
theorem res3_block (W : World) (b : Nat) (x y z : Value) (o : Obj) (k : Nat) (hk : k < W.heap.size) (hn : k ≠ b) : ((((W.setCell ⟨b, 0, none⟩ x).setCell ⟨b, 1, none⟩ y).setCell ⟨b, 2, none⟩ z).alloc o).heap[k]? = W.heap[k]? := by
 rw [heap_alloc_old _ _ (by simpa using hk), Deep.blk_setCell_other _ _ _ _ hn, Deep.blk_setCell_other _ _ _ _ hn, Deep.blk_setCell_other _ _ _ _ hn]
theorem set3 {w1 : World} {g : Nat} {cur : Array Value} {t : TypeId} {f : Nat × Nat} (hg : w1.heap[g]? = some (.cells cur t f)) (o1 o2 o3 : Nat) (x y z : Value) :
  ((w1.setCell ⟨g, o1, none⟩ x).setCell ⟨g, o2, none⟩ y).setCell ⟨g, o3, none⟩ z = w1.setRow g (((cur.setIfInBounds o1 x).setIfInBounds o2 y).setIfInBounds o3 z) := by
 rw [setCell_eq_setRow w1 g o1 cur t f x hg]
 have h1 := setRow_heap w1 g _ (cur.setIfInBounds o1 x) t f hg
 rw [setCell_eq_setRow _ g o2 _ t f y h1, setRow_setRow]
 have h2 := setRow_heap w1 g _ ((cur.setIfInBounds o1 x).setIfInBounds o2 y) t f hg
 rw [setCell_eq_setRow _ g o3 _ t f z h2, setRow_setRow]
set_option maxHeartbeats 400000 in
theorem rPut_old (st : Nat) (v : Value) (xs : List Ent) (b : Int) (r : Go.Proofs.YtglbamalagacgaaGreat.Ent) (w : World) (hS : StoreAt w st v xs) (hg : (getR xs b).isSome = true) :
  Calls Tryz.prog 141 #[ptrV st, .int .i64 b, rteV r.a r.l r.n] w fun e w' => (∃ v', StoreAt w' st v' (putR xs b r) /\ v'.ownBlock = v.ownBlock) /\ Only (st :: v.ownBlock.toList) w w' /\ ∃ x, e = .returned x := by
 have hB1 : Below w.heap.size w ((w.alloc (.cells #[.int .i64 r.a, .int .i64 r.l, .int .i64 r.n] 90)).alloc zR) := ((Below.refl _ w).alloc (Nat.le_refl _) _).alloc (by simp) _
 go_enter Tryz.func141, Tryz.ntmps141
 go_wp2_with fail
 refine (find_any st v xs b _ (hS.later hB1)).mono ?_
 rintro _ w1 ⟨hB, i, hp, rfl⟩
 have hge := place_get hS.2.2.2.1 hp
 have hput := place_put (r := r) hS.2.2.2.1 hp
 have hB2 := hB1.trans (hB.mono (by simp; omega))
 have hS1 := hS.later hB2
 cases hf : FoundAt xs b i with
 | false => rw [hge, hf] at hg; cases hg
 | true =>
  rw [hf] at hge hput
  simp only [if_true] at hge hput
  have hil := found_lt hf
  have ka := found_key hf
  have hset := entCells_set xs r i hil
  rw [ka, <- hput] at hset
  have hlp : (putR xs b r).length = xs.length := by rw [hput]; simp; omega
  have v0 : w1.cell? ⟨w.heap.size, 0, none⟩ = some (.int .i64 r.a) := (hB.cell (p := ⟨w.heap.size, 0, none⟩) (by simp; omega)).trans (by simp [go_sem])
  have v1 : w1.cell? ⟨w.heap.size, 1, none⟩ = some (.int .i64 r.l) := (hB.cell (p := ⟨w.heap.size, 1, none⟩) (by simp; omega)).trans (by simp [go_sem])
  have v2 : w1.cell? ⟨w.heap.size, 2, none⟩ = some (.int .i64 r.n) := (hB.cell (p := ⟨w.heap.size, 2, none⟩) (by simp; omega)).trans (by simp [go_sem])
  have r0 : w1.cell? ⟨w.heap.size + 1, 0, none⟩ = some (.int .i64 0) := (hB.cell (p := ⟨w.heap.size + 1, 0, none⟩) (by simp)).trans (by simp [go_sem])
  have r1 : w1.cell? ⟨w.heap.size + 1, 1, none⟩ = some (.int .i64 0) := (hB.cell (p := ⟨w.heap.size + 1, 1, none⟩) (by simp)).trans (by simp [go_sem])
  have r2 : w1.cell? ⟨w.heap.size + 1, 2, none⟩ = some (.int .i64 0) := (hB.cell (p := ⟨w.heap.size + 1, 2, none⟩) (by simp)).trans (by simp [go_sem])
  have rf : ∀ o, w1.frozen? ⟨w.heap.size + 1, o, none⟩ = false := fun o => (hB.frozen (p := ⟨w.heap.size + 1, o, none⟩) (by simp)).trans (by simp [go_sem])
  rcases hS1.2.1 with ⟨rfl, rfl⟩ | ⟨g, cap, sp, rfl, hgg, hl, hnc, hcm⟩
  ·simp at hil
  ·have hx : EntsAt w1 g xs := RowAt.ents (cap := cap) (.inr ⟨g, cap, sp, rfl, hgg, hl, hnc, hcm⟩)
   obtain ⟨x0, x1, x2, x3⟩ := hx i hil
   have c1 := hS1.c1
   have fg : ∀ o, w1.frozen? ⟨g, o, none⟩ = false := fun o => by simp [World.frozen?, hgg]
   have i0 : (0 : Int) <= (i : Int) := by omega
   have i1 : (i : Int) < (xs.length : Int) := by omega
   have hgl := (Array.getElem?_eq_some_iff.1 hgg).1
   have hsl := hS1.lt
   have hgw : g < w.heap.size := by
    have := hS.2.1.lt g rfl; exact this
   have hsw : st < w.heap.size := hS.lt
   have hwl : w.heap.size + 1 < w1.heap.size := by have := hB.size; simp at this; omega
   have m0 : w.heap.size < w1.heap.size := by omega
   have n1 : w.heap.size ≠ g := by omega
   have n2 : g ≠ w.heap.size := by omega
   have n3 : w.heap.size + 1 ≠ g := by omega
   have n4 : g ≠ w.heap.size + 1 := by omega
   have n5 : w1.heap.size ≠ g := by omega
   have n6 : w1.heap.size ≠ w.heap.size := by omega
   have n7 : w1.heap.size ≠ w.heap.size + 1 := by omega
   have n8 : w1.heap.size ≠ st := by omega
   have hne : g ≠ st := fun e => hS1.2.2.1 (by rw [e]; rfl)
   clear hge hg hf hp
   generalize xs[i]?.getD Ent.z = y at *
   obtain ⟨W3, hW3⟩ : ∃ W3, W3 = ((w1.setCell ⟨g, i * 4 + 1, none⟩ (.int .i64 r.a)).setCell ⟨g, i * 4 + 1 + 1, none⟩ (.int .i64 r.l)).setCell ⟨g, i * 4 + 1 + 2, none⟩ (.int .i64 r.n) := ⟨_, rfl⟩
   have fin : Hid ((∃ v', StoreAt W3 st v' (putR xs b r) /\ v'.ownBlock = some g) /\ Only (st :: (some g).toList) w W3) := by
    have e1 := set3 hgg (i * 4 + 1) (i * 4 + 1 + 1) (i * 4 + 1 + 2) (.int .i64 r.a) (.int .i64 r.l) (.int .i64 r.n)
    rw [<- hW3] at e1
    have e2 : (((entCells xs ++ sp).toArray.setIfInBounds (i * 4 + 1) (.int .i64 r.a)).setIfInBounds (i * 4 + 1 + 1) (.int .i64 r.l)).setIfInBounds (i * 4 + 1 + 2) (.int .i64 r.n) = (entCells (putR xs b r) ++ sp).toArray := by
     apply Array.ext'
     have hlx := entCells_length xs
     rw [Array.toList_setIfInBounds, Array.toList_setIfInBounds, Array.toList_setIfInBounds]
     show (((entCells xs ++ sp).set (i * 4 + 1) (.int .i64 r.a)).set (i * 4 + 2) (.int .i64 r.l)).set (i * 4 + 3) (.int .i64 r.n) = entCells (putR xs b r) ++ sp
     rw [List.set_append_left _ _ (by omega), List.set_append_left _ _ (by simp; omega), List.set_append_left _ _ (by simp; omega), hset]
    rw [e2] at e1
    rw [e1]
    refine ⟨⟨.slice (some ⟨g, 0, none⟩) xs.length cap, ⟨(setRow_other w1 g st _ (fun e => hne e.symm)).trans hS1.1, .inr ⟨g, cap, sp, by rw [hlp], setRow_heap w1 g _ _ _ _ hgg, ?_, by rw [hlp]; exact hnc, hcm⟩, hS1.2.2.1, putR_sorted hS1.2.2.2.1, by rw [hlp]; exact hS1.2.2.2.2⟩, rfl⟩, ?_⟩
    ·rw [List.length_append, entCells_length] at hl ⊢
     rw [hlp]; exact hl
    ·exact (Only.of_below _ hB2).trans (grownBy_only (grownBy_setRow' g _)) (fun x hx => .inl (by simp at hx ⊢; exact .inr hx))
   clear hset hS1 hx hl hnc hcm hgg hS hput
   have HW := hide hW3
   clear hW3
   go_wp2
   go_region
   go_wp2
   rw [<- HW.out]
   refine bodyPost_ret (v := .tuple #[rteV y.a y.l y.n, .bool true]) (by rw [HW.out]; simp [results, Tryz.results141, go_sem, *]) rfl ?_
   have hB3 : Below w.heap.size W3 ((((W3.setCell ⟨w.heap.size + 1, 0, none⟩ (.int .i64 y.a)).setCell ⟨w.heap.size + 1, 1, none⟩ (.int .i64 y.l)).setCell ⟨w.heap.size + 1, 2, none⟩ (.int .i64 y.n)).alloc (.cells #[.int .i64 y.a, .int .i64 y.l, .int .i64 y.n] 90)).drew :=
    ((((Below.refl _ W3).setCell (by simp) _).setCell (by simp) _).setCell (by simp) _ |>.alloc (by have := fin.out.2.size; simp; omega) _).drew
   obtain ⟨⟨v', f1, f2⟩, f3⟩ := fin.out
   exact ⟨⟨v', f1.under hB3 hsw (fun g' hg' => by rw [f2] at hg'; cases hg'; exact hgw), f2⟩, Only.under f3 hB3, _, rfl⟩
theorem insert_new (st kb : Nat) (v : Value) (xs : List Ent) (b : Int) (r : Go.Proofs.YtglbamalagacgaaGreat.Ent) (i : Nat) (w1 : World) (hS : StoreAt w1 st v xs) (hi : i <= xs.length) (hkb : kb + 1 < w1.heap.size) (hkn : ∀ g, v.ownBlock = some g -> g < kb) :
  Calls Tryz.prog 148 #[v, .int .i64 i, .slice (some ⟨w1.heap.size, 0, none⟩) 1 1] (w1.alloc (Obj.cells #[.int .i64 b, .int .i64 r.a, .int .i64 r.l, .int .i64 r.n] 195)).drew fun e w' =>
   ∃ a' n' cap', e = .returned (.slice a' n' cap') /\ RowAt w' (.slice a' n' cap') (xs.take i ++ mkE b r :: xs.drop i) /\ Only v.ownBlock.toList w1 w' /\ ((Value.slice a' n' cap').ownBlock = v.ownBlock ∨ ∃ g, (Value.slice a' n' cap').ownBlock = some g /\ w1.heap.size <= g) ∧
    (∀ o, w'.cell? ⟨st, o, none⟩ = w1.cell? ⟨st, o, none⟩) /\ (∀ o, w'.frozen? ⟨st, o, none⟩ = w1.frozen? ⟨st, o, none⟩) /\ (∀ o, w'.cell? ⟨kb, o, none⟩ = w1.cell? ⟨kb, o, none⟩) /\ (∀ o, w'.cell? ⟨kb + 1, o, none⟩ = w1.cell? ⟨kb + 1, o, none⟩) /\ (∀ o, w'.frozen? ⟨kb + 1, o, none⟩ = w1.frozen? ⟨kb + 1, o, none⟩) /\ (Value.slice a' n' cap').ownBlock ≠ some st /\ w1.heap.size < w'.heap.size := by
 have hB : Below w1.heap.size w1 (w1.alloc (Obj.cells #[.int .i64 b, .int .i64 r.a, .int .i64 r.l, .int .i64 r.n] 195)).drew := ((Below.refl _ w1).alloc (Nat.le_refl _) _).drew
 have hO1 : OneAt (w1.alloc (Obj.cells #[.int .i64 b, .int .i64 r.a, .int .i64 r.l, .int .i64 r.n] 195)).drew w1.heap.size (mkE b r) := heap_alloc_new w1 _
 have hlt := hS.lt
 refine (insert_any _ v xs i w1.heap.size (mkE b r) ((hS.later hB).2.1) hO1 (fun h => by have := hS.2.1.lt _ h; omega) hi hS.2.2.2.2).mono ?_
 rintro e w' ⟨v', rfl, hr, hg, hv⟩
 have hO : Only v.ownBlock.toList w1 w' := (Only.of_below _ hB).trans (grownBy_only hg) (fun x hx => .inl hx)
 have hsz : w1.heap.size < w'.heap.size := by have := hg.size; simp at this; omega
 have hns : st ∉ v.ownBlock.toList := by simpa using hS.2.2.1
 have hnk : kb ∉ v.ownBlock.toList := fun h => by have := hkn kb (by simpa using h); omega
 have hnk1 : kb + 1 ∉ v.ownBlock.toList := fun h => by have := hkn (kb + 1) (by simpa using h); omega
 have hv' : v'.ownBlock = v.ownBlock ∨ ∃ g, v'.ownBlock = some g /\ w1.heap.size <= g := by
  rcases hv with h | ⟨g, h1, h2⟩
  ·exact .inl h
  ·exact .inr ⟨g, h1, by have := hB.size; omega⟩
 obtain ⟨a', n', cap', rfl⟩ := hr.shape
 refine ⟨a', n', cap', rfl, hr, hO, hv', fun o => hO.cell hlt hns, fun o => hO.frozen hlt hns, fun o => hO.cell (by omega) hnk, fun o => hO.cell hkb hnk1, fun o => hO.frozen hkb hnk1, fun h => ?_, hsz⟩
 rcases hv' with h1 | ⟨g, h1, h2⟩
 ·exact hS.2.2.1 (h1 ▸ h)
 ·rw [h1] at h; cases h; omega
theorem store_set {w1 w2 : World} {st n' cap' : Nat} {v : Value} {a' : Option Addr} {xs xs' : List Ent} (hS : StoreAt w1 st v xs) (hr : RowAt w2 (.slice a' n' cap') xs') (hO : Only v.ownBlock.toList w1 w2) (hvs : (Value.slice a' n' cap').ownBlock ≠ some st) (hs : Sorted xs') (hl : xs'.length <= 1000000) :
  StoreAt (w2.setCell ⟨st, 1, none⟩ (.slice a' n' cap')) st (.slice a' n' cap') xs' /\ Only (st :: v.ownBlock.toList) w1 (w2.setCell ⟨st, 1, none⟩ (.slice a' n' cap')) := by
 have hns : st ∉ v.ownBlock.toList := by simpa using hS.2.2.1
 have h2 : w2.heap[st]? = some (.cells #[cmpIV, v] 186 (0, 0)) := (hO.block st hS.lt hns).trans hS.1
 have e1 := setCell_eq_setRow w2 st 1 _ 186 (0, 0) (.slice a' n' cap') h2
 rw [e1]
 have e2 : (#[cmpIV, v] : Array Value).setIfInBounds 1 (.slice a' n' cap') = #[cmpIV, .slice a' n' cap'] := by simp
 rw [e2]
 refine ⟨⟨setRow_heap w2 st _ _ _ _ h2, hr.kept fun g hg => setRow_other w2 st g _ (fun e => hvs (by rw [hg, e])), hvs, hs, hl⟩, ?_⟩
 exact (hO.mono (G := st :: v.ownBlock.toList) (fun x hx _ => by simp; exact .inr (by simpa using hx))).trans (grownBy_only (grownBy_setRow' st _)) (fun x hx => .inl (by simp at hx; simp [hx]))
set_option maxHeartbeats 800000 in
theorem rPut_new (st : Nat) (v : Value) (xs : List Ent) (b : Int) (r : Go.Proofs.YtglbamalagacgaaGreat.Ent) (w : World) (hS : StoreAt w st v xs) (hg : (getR xs b).isSome = false) (hlim : xs.length < 1000000) :
  Calls Tryz.prog 141 #[ptrV st, .int .i64 b, rteV r.a r.l r.n] w fun e w' => (∃ v', StoreAt w' st v' (putR xs b r) /\ (v'.ownBlock = v.ownBlock ∨ ∃ g, v'.ownBlock = some g /\ w.heap.size <= g)) /\ Only (st :: v.ownBlock.toList) w w' /\ ∃ x, e = .returned x := by
 have hB1 : Below w.heap.size w ((w.alloc (.cells #[.int .i64 r.a, .int .i64 r.l, .int .i64 r.n] 90)).alloc zR) := ((Below.refl _ w).alloc (Nat.le_refl _) _).alloc (by simp) _
 go_enter Tryz.func141, Tryz.ntmps141
 go_wp2_with fail
 refine (find_any st v xs b _ (hS.later hB1)).mono ?_
 rintro _ w1 ⟨hB, i, hp, rfl⟩
 have hge := place_get hS.2.2.2.1 hp
 have hput := place_put (r := r) hS.2.2.2.1 hp
 have hB2 := hB1.trans (hB.mono (by simp; omega))
 have hS1 := hS.later hB2
 cases hf : FoundAt xs b i with
 | true => rw [hge, hf] at hg; cases hg
 | false =>
  rw [hf] at hge hput
  simp only [Bool.false_eq_true, if_false] at hge hput
  have c1 := hS1.c1
  have f1 := hS1.fz 1
  have v0 : w1.cell? ⟨w.heap.size, 0, none⟩ = some (.int .i64 r.a) := (hB.cell (p := ⟨w.heap.size, 0, none⟩) (by simp; omega)).trans (by simp [go_sem])
  have v1 : w1.cell? ⟨w.heap.size, 1, none⟩ = some (.int .i64 r.l) := (hB.cell (p := ⟨w.heap.size, 1, none⟩) (by simp; omega)).trans (by simp [go_sem])
  have v2 : w1.cell? ⟨w.heap.size, 2, none⟩ = some (.int .i64 r.n) := (hB.cell (p := ⟨w.heap.size, 2, none⟩) (by simp; omega)).trans (by simp [go_sem])
  have r0 : w1.cell? ⟨w.heap.size + 1, 0, none⟩ = some (.int .i64 0) := (hB.cell (p := ⟨w.heap.size + 1, 0, none⟩) (by simp)).trans (by simp [go_sem])
  have r1 : w1.cell? ⟨w.heap.size + 1, 1, none⟩ = some (.int .i64 0) := (hB.cell (p := ⟨w.heap.size + 1, 1, none⟩) (by simp)).trans (by simp [go_sem])
  have r2 : w1.cell? ⟨w.heap.size + 1, 2, none⟩ = some (.int .i64 0) := (hB.cell (p := ⟨w.heap.size + 1, 2, none⟩) (by simp)).trans (by simp [go_sem])
  have rf : ∀ o, w1.frozen? ⟨w.heap.size + 1, o, none⟩ = false := fun o => (hB.frozen (p := ⟨w.heap.size + 1, o, none⟩) (by simp)).trans (by simp [go_sem])
  have hst := hS1.lt
  have hsw : st < w.heap.size := hS.lt
  have hwl : w.heap.size + 1 < w1.heap.size := by have := hB.size; simp at this; omega
  have m0 : w.heap.size < w1.heap.size := by omega
  have n1 : st ≠ w.heap.size + 1 := by omega
  have n2 : w.heap.size + 1 ≠ st := by omega
  have hvl : ∀ g, v.ownBlock = some g -> g < w.heap.size := hS.2.1.lt
  clear hge hf hg
  go_wp2
  go_region_with (first
    | (go_at_call 148; refine (insert_new st w.heap.size v xs b r i w1 hS1 hp.1 hwl hvl).mono ?_; rintro _ w2 ⟨a', n', cap', rfl, hr, hO, hv', hcs, hfs, hck, hck1, hfk1, hvs, hz2⟩; have f2 := (hfs 1).trans f1))
  all_goals
   rw [<- hput] at hr
   have hlp : (putR xs b r).length <= 1000000 := by rw [hput]; simp; have := hp.1; omega
   obtain ⟨hs3, ho3⟩ := store_set hS1 hr hO hvs (putR_sorted hS1.2.2.2.1) hlp
   obtain ⟨W3, hW3⟩ : ∃ W3, W3 = w2.setCell ⟨st, 1, none⟩ (.slice a' n' cap') := ⟨_, rfl⟩
   rw [<- hW3] at hs3 ho3
   have q0 : W3.cell? ⟨w.heap.size + 1, 0, none⟩ = some (.int .i64 0) := by rw [hW3]; simp [go_sem, *]
   have q1 : W3.cell? ⟨w.heap.size + 1, 1, none⟩ = some (.int .i64 0) := by rw [hW3]; simp [go_sem, *]
   have q2 : W3.cell? ⟨w.heap.size + 1, 2, none⟩ = some (.int .i64 0) := by rw [hW3]; simp [go_sem, *]
   have qf : ∀ o, W3.frozen? ⟨w.heap.size + 1, o, none⟩ = false := fun o => by rw [hW3]; simp [go_sem, *]
   have hz3 : w.heap.size + 1 < W3.heap.size := by rw [hW3]; simp; omega
   have hz4 : W3.heap.size ≠ w.heap.size + 1 := by omega
   have fin : Hid ((∃ v', StoreAt W3 st v' (putR xs b r) /\ (v'.ownBlock = v.ownBlock ∨ ∃ g, v'.ownBlock = some g /\ w1.heap.size <= g)) /\ Only (st :: v.ownBlock.toList) w W3) :=
    ⟨⟨_, hs3, hv'⟩, (Only.of_below _ hB2).trans ho3 (fun x hx => .inl hx)⟩
   rw [<- hW3]
   clear hs3 ho3 hr hO hv' hvs f2 hput hp hS hS1 c1 f1 v0 v1 v2 r0 r1 r2 rf hcs hfs hck hck1 hfk1 hW3 hB
   go_wp2
   refine bodyPost_ret (v := .tuple #[rteV 0 0 0, .bool false]) (by simp [results, Tryz.results141, go_sem, *]) rfl ?_
   have hB3 : Below w.heap.size W3 (((W3.setCell ⟨w.heap.size + 1, 0, none⟩ (.int .i64 0)).setCell ⟨w.heap.size + 1, 1, none⟩ (.int .i64 0)).setCell ⟨w.heap.size + 1, 2, none⟩ (.int .i64 0) |>.alloc zR) :=
    (((Below.refl _ W3).setCell (by simp) _).setCell (by simp) _).setCell (by simp) _ |>.alloc (by simp; omega) _
   obtain ⟨⟨v', f1, f2⟩, f3⟩ := fin.out
   exact ⟨⟨v', f1.aside (b := w.heap.size + 1) (fun k hk hn => res3_block W3 _ _ _ _ _ k hk hn) n1 (fun h => by
    rcases f2 with h1 | ⟨g, h1, h2⟩
    ·have := hvl _ (h1 ▸ h); omega
    ·rw [h1] at h; cases h; omega), f2.imp id (fun ⟨g, h1, h2⟩ => ⟨g, h1, by omega⟩)⟩, Only.under f3 hB3, _, rfl⟩
theorem delR_none {xs : List Ent} {k : Int} (h : getR xs k = none) : delR xs k = xs := by
 induction xs with
 | nil => rfl
 | cons x xs ih =>
  rw [getR] at h
  split at h
  ·cases h
  ·rename_i hx; rw [delR, if_neg hx, ih h]
set_option maxHeartbeats 400000 in
theorem rRemove_none (st : Nat) (v : Value) (xs : List Ent) (b : Int) (w : World) (hS : StoreAt w st v xs) (hg : (getR xs b).isSome = false) :
  Calls Tryz.prog 140 #[ptrV st, .int .i64 b] w fun e w' => Below w.heap.size w w' /\ ∃ x, e = .returned x := by
 have hB1 : Below w.heap.size w (w.alloc zR) := (Below.refl _ w).alloc (Nat.le_refl _) _
 go_enter Tryz.func140, Tryz.ntmps140
 go_wp2_with fail
 refine (find_any st v xs b _ (hS.later hB1)).mono ?_
 rintro _ w1 ⟨hB, i, hp, rfl⟩
 have hge := place_get hS.2.2.2.1 hp
 have hB2 := hB1.trans (hB.mono (by simp))
 have hwl : w.heap.size < w1.heap.size := by have := hB.size; simp at this; omega
 have r0 : w1.cell? ⟨w.heap.size, 0, none⟩ = some (.int .i64 0) := (hB.cell (p := ⟨w.heap.size, 0, none⟩) (by simp)).trans (by simp [go_sem])
 have r1 : w1.cell? ⟨w.heap.size, 1, none⟩ = some (.int .i64 0) := (hB.cell (p := ⟨w.heap.size, 1, none⟩) (by simp)).trans (by simp [go_sem])
 have r2 : w1.cell? ⟨w.heap.size, 2, none⟩ = some (.int .i64 0) := (hB.cell (p := ⟨w.heap.size, 2, none⟩) (by simp)).trans (by simp [go_sem])
 have rf : ∀ o, w1.frozen? ⟨w.heap.size, o, none⟩ = false := fun o => (hB.frozen (p := ⟨w.heap.size, o, none⟩) (by simp)).trans (by simp [go_sem])
 cases hf : FoundAt xs b i with
 | true => rw [hge, hf] at hg; cases hg
 | false =>
  clear hge hf hg hp hS hB
  go_wp2
  exact bodyPost_ret (v := .tuple #[rteV 0 0 0, .bool false]) (by simp [results, Tryz.results140, go_sem, *]) rfl ⟨(by repeat (first | exact Below.refl _ _ | refine below_drewN ?_ _ | refine Below.drew ?_ | refine Below.trans ?_ (Below.mono (by assumption) ?_) | refine Below.alloc ?_ ?_ _ | refine Below.setCell ?_ ?_ _ | omega | (simp; omega) | simp)), _, rfl⟩
theorem delete_new (st kb : Nat) (v : Value) (xs : List Ent) (i : Nat) (w1 W : World) (hB : Below w1.heap.size w1 W) (hS : StoreAt w1 st v xs) (hi : i < xs.length) (hkb : kb < w1.heap.size) (hkn : ∀ g, v.ownBlock = some g -> g < kb) :
  Calls Tryz.prog 147 #[v, .int .i64 i, .int .i64 ((i : Int) + 1)] W fun e w' =>
   ∃ a' n' cap', e = .returned (.slice a' n' cap') /\ RowAt w' (.slice a' n' cap') (xs.take i ++ xs.drop (i + 1)) /\ Only v.ownBlock.toList w1 w' /\ ((Value.slice a' n' cap').ownBlock = v.ownBlock ∨ ∃ g, (Value.slice a' n' cap').ownBlock = some g /\ W.heap.size <= g) ∧
    (∀ k o, w1.heap.size <= k -> k < W.heap.size -> w'.cell? ⟨k, o, none⟩ = W.cell? ⟨k, o, none⟩) /\ (∀ o, w'.cell? ⟨st, o, none⟩ = w1.cell? ⟨st, o, none⟩) /\ (∀ o, w'.frozen? ⟨st, o, none⟩ = w1.frozen? ⟨st, o, none⟩) /\ (∀ o, w'.cell? ⟨kb, o, none⟩ = w1.cell? ⟨kb, o, none⟩) /\ (∀ o, w'.frozen? ⟨kb, o, none⟩ = w1.frozen? ⟨kb, o, none⟩) /\ (Value.slice a' n' cap').ownBlock ≠ some st /\ W.heap.size <= w'.heap.size := by
 have hlt := hS.lt
 refine (delete_any _ v xs i (hS.later hB).2.1 hi hS.2.2.2.2).mono ?_
 rintro e w' ⟨v', rfl, hr, hg, hv'⟩
 have hO' : Only v.ownBlock.toList W w' := grownBy_only hg
 have hO : Only v.ownBlock.toList w1 w' := (Only.of_below _ hB).trans hO' (fun x hx => .inl hx)
 have hns : st ∉ v.ownBlock.toList := by simpa using hS.2.2.1
 have hnk : kb ∉ v.ownBlock.toList := fun h => by have := hkn kb (by simpa using h); omega
 obtain ⟨a', n', cap', rfl⟩ := hr.shape
 refine ⟨a', n', cap', rfl, hr, hO, hv', fun k o h1 h2 => hO'.cell h2 (fun h => by have := hkn k (by simpa using h); omega), fun o => hO.cell hlt hns, fun o => hO.frozen hlt hns, fun o => hO.cell hkb hnk, fun o => hO.frozen hkb hnk, fun h => ?_, hg.size⟩
 rcases hv' with h1 | ⟨g, h1, h2⟩
 ·exact hS.2.2.1 (h1 ▸ h)
 ·rw [h1] at h; cases h; have := hB.size; omega
set_option maxHeartbeats 800000 in
theorem rRemove_some (st : Nat) (v : Value) (xs : List Ent) (b : Int) (w : World) (hS : StoreAt w st v xs) (hg : (getR xs b).isSome = true) :
  Calls Tryz.prog 140 #[ptrV st, .int .i64 b] w fun e w' => (∃ v', StoreAt w' st v' (delR xs b) /\ (v'.ownBlock = v.ownBlock ∨ ∃ g, v'.ownBlock = some g /\ w.heap.size <= g)) /\ Only (st :: v.ownBlock.toList) w w' /\ ∃ x, e = .returned x := by
 have hB1 : Below w.heap.size w (w.alloc zR) := (Below.refl _ w).alloc (Nat.le_refl _) _
 go_enter Tryz.func140, Tryz.ntmps140
 go_wp2_with fail
 refine (find_any st v xs b _ (hS.later hB1)).mono ?_
 rintro _ w1 ⟨hB, i, hp, rfl⟩
 have hge := place_get hS.2.2.2.1 hp
 have hB2 := hB1.trans (hB.mono (by simp))
 have hS1 := hS.later hB2
 cases hf : FoundAt xs b i with
 | false => rw [hge, hf] at hg; cases hg
 | true =>
  have hdel := place_del hS.2.2.2.1 hp hf
  have hil := found_lt hf
  have hlim := hS.2.2.2.2
  obtain ⟨g, cap, hv⟩ : ∃ g cap, v = .slice (some ⟨g, 0, none⟩) xs.length cap := by
   rcases hS1.2.1 with ⟨_, rfl⟩ | ⟨g, cap, sp, rfl, _⟩
   ·simp at hil
   ·exact ⟨g, cap, rfl⟩
  have hx : EntsAt w1 g xs := RowAt.ents (cap := cap) (n := xs.length) (hv ▸ hS1.2.1)
  obtain ⟨x0, x1, x2, x3⟩ := hx i hil
  have c1 := hS1.c1
  have f1 := hS1.fz 1
  have i0 : (0 : Int) <= (i : Int) := by omega
  have i1 : (i : Int) < (xs.length : Int) := by omega
  have r0 : w1.cell? ⟨w.heap.size, 0, none⟩ = some (.int .i64 0) := (hB.cell (p := ⟨w.heap.size, 0, none⟩) (by simp)).trans (by simp [go_sem])
  have r1 : w1.cell? ⟨w.heap.size, 1, none⟩ = some (.int .i64 0) := (hB.cell (p := ⟨w.heap.size, 1, none⟩) (by simp)).trans (by simp [go_sem])
  have r2 : w1.cell? ⟨w.heap.size, 2, none⟩ = some (.int .i64 0) := (hB.cell (p := ⟨w.heap.size, 2, none⟩) (by simp)).trans (by simp [go_sem])
  have rf : ∀ o, w1.frozen? ⟨w.heap.size, o, none⟩ = false := fun o => (hB.frozen (p := ⟨w.heap.size, o, none⟩) (by simp)).trans (by simp [go_sem])
  have hwl : w.heap.size < w1.heap.size := by have := hB.size; simp at this; omega
  have hsw : st < w.heap.size := hS.lt
  have hst : st < w1.heap.size := by omega
  have hvl : ∀ g, v.ownBlock = some g -> g < w.heap.size := hS.2.1.lt
  have hgw : g < w.heap.size := hvl g (by rw [hv]; rfl)
  have hgw1 : g < w1.heap.size := by omega
  have n1 : st ≠ w.heap.size := by omega
  have n2 : w.heap.size ≠ st := by omega
  have n3 : w1.heap.size ≠ st := by omega
  have n4 : st ≠ w1.heap.size := by omega
  have HD := hide hdel
  clear hge hdel hg hf hp hx hB
  subst hv
  generalize xs[i]?.getD Ent.z = y at *
  have hB3 : Below w1.heap.size w1 (w1.alloc (.cells #[.int .i64 y.a, .int .i64 y.l, .int .i64 y.n] 90)) := (Below.refl _ w1).alloc (Nat.le_refl _) _
  have hde := hide (delete_new st w.heap.size _ xs i w1 _ hB3 hS1 hil hwl hvl)
  go_wp2_with fail
  refine hde.out.mono ?_
  rintro _ w2 ⟨a', n', cap', rfl, hr, hO, hv', hnew, hcs, hfs, hck, hfk, hvs, hz⟩
  have f2 := (hfs 1).trans f1
  have c2 := (hcs 1).trans c1
  rw [<- HD.out] at hr
  have hlp : (delR xs b).length <= 1000000 := by rw [HD.out]; simp; omega
  obtain ⟨hs3, ho3⟩ := store_set hS1 hr hO hvs (delR_sorted hS1.2.2.2.1) hlp
  obtain ⟨W3, hW3⟩ : ∃ W3, W3 = w2.setCell ⟨st, 1, none⟩ (.slice a' n' cap') := ⟨_, rfl⟩
  have HW := hide hW3
  rw [<- hW3] at hs3 ho3
  have z1 : w1.heap.size < w2.heap.size := by simp at hz; omega
  have s0 : w2.cell? ⟨w1.heap.size, 0, none⟩ = some (.int .i64 y.a) := (hnew _ _ (Nat.le_refl _) (by simp)).trans (by simp [go_sem])
  have s1 : w2.cell? ⟨w1.heap.size, 1, none⟩ = some (.int .i64 y.l) := (hnew _ _ (Nat.le_refl _) (by simp)).trans (by simp [go_sem])
  have s2 : w2.cell? ⟨w1.heap.size, 2, none⟩ = some (.int .i64 y.n) := (hnew _ _ (Nat.le_refl _) (by simp)).trans (by simp [go_sem])
  have q0 := (hck 0).trans r0
  have q1 := (hck 1).trans r1
  have q2 := (hck 2).trans r2
  have qf : ∀ o, w2.frozen? ⟨w.heap.size, o, none⟩ = false := fun o => (hfk o).trans (rf o)
  have fin : Hid ((∃ v', StoreAt W3 st v' (delR xs b) /\ (v'.ownBlock = some g ∨ ∃ g, v'.ownBlock = some g /\ w1.heap.size <= g)) /\ Only (st :: (some g).toList) w W3) :=
   ⟨⟨_, hs3, hv'.imp id (fun ⟨g, h1, h2⟩ => ⟨g, h1, by simp at h2; omega⟩)⟩, (Only.of_below _ hB2).trans ho3 (fun x hx => .inl hx)⟩
  clear hs3 ho3 hr hO hv' hvs hS hS1 c1 f1 r0 r1 r2 rf hcs hfs hck hfk hnew hde hB3 hW3 x0 x1 x2 x3
  go_wp2
  rw [<- HW.out]
  refine bodyPost_ret (v := .tuple #[rteV y.a y.l y.n, .bool true]) (by rw [HW.out]; simp [results, Tryz.results140, go_sem, *]) rfl ?_
  have hB3 : Below w.heap.size W3 (((W3.setCell ⟨w.heap.size, 0, none⟩ (.int .i64 y.a)).setCell ⟨w.heap.size, 1, none⟩ (.int .i64 y.l)).setCell ⟨w.heap.size, 2, none⟩ (.int .i64 y.n)) :=
   (((Below.refl _ W3).setCell (by simp) _).setCell (by simp) _).setCell (by simp) _
  obtain ⟨⟨v', f1, f2⟩, f3⟩ := fin.out
  exact ⟨⟨v', f1.aside (b := w.heap.size) (fun k _ hn => by rw [Deep.blk_setCell_other _ _ _ _ hn, Deep.blk_setCell_other _ _ _ _ hn, Deep.blk_setCell_other _ _ _ _ hn]) n1 (fun h => by
   rcases f2 with h1 | ⟨g, h1, h2⟩
   ·rw [h1] at h; cases h; omega
   ·rw [h1] at h; cases h; omega), f2.imp id (fun ⟨g, h1, h2⟩ => ⟨g, h1, by omega⟩)⟩, Only.under f3 hB3, _, rfl⟩
theorem put_F (st : Nat) (xs : List Ent) (F : List Nat) (b : Int) (r : Go.Proofs.YtglbamalagacgaaGreat.Ent) (w : World) (hS : StoreF w st xs F) (hlim : xs.length < 1000000) :
  Calls Tryz.prog 141 #[ptrV st, .int .i64 b, rteV r.a r.l r.n] w fun e w' => (∃ F', StoreF w' st (putR xs b r) F' /\ NewF w F F') /\ Only F w w' /\ ∃ x, e = .returned x := by
 obtain ⟨v, hS, rfl⟩ := hS
 cases hg : (getR xs b).isSome with
 | true =>
  refine (rPut_old st v xs b r w hS hg).mono ?_
  rintro _ w' ⟨⟨v', h1, h2⟩, h3, h4⟩
  exact ⟨⟨_, ⟨v', h1, rfl⟩, foot_new (.inl h2)⟩, h3, h4⟩
 | false =>
  refine (rPut_new st v xs b r w hS hg hlim).mono ?_
  rintro _ w' ⟨⟨v', h1, h2⟩, h3, h4⟩
  exact ⟨⟨_, ⟨v', h1, rfl⟩, foot_new h2⟩, h3, h4⟩
theorem remove_F (st : Nat) (xs : List Ent) (F : List Nat) (b : Int) (w : World) (hS : StoreF w st xs F) :
  Calls Tryz.prog 140 #[ptrV st, .int .i64 b] w fun e w' => (∃ F', StoreF w' st (delR xs b) F' /\ NewF w F F') /\ Only F w w' /\ ∃ x, e = .returned x := by
 obtain ⟨v, hS, rfl⟩ := hS
 cases hg : (getR xs b).isSome with
 | true =>
  refine (rRemove_some st v xs b w hS hg).mono ?_
  rintro _ w' ⟨⟨v', h1, h2⟩, h3, h4⟩
  exact ⟨⟨_, ⟨v', h1, rfl⟩, foot_new h2⟩, h3, h4⟩
 | false =>
  have hn : getR xs b = none := by simpa using hg
  refine (rRemove_none st v xs b w hS hg).mono ?_
  rintro _ w' ⟨hB, h4⟩
  rw [delR_none hn]
  exact ⟨⟨_, ⟨v, hS.later hB, rfl⟩, fun k hk => .inl hk⟩, Only.of_below _ hB, h4⟩
theorem last_F (st : Nat) (xs : List Ent) (F : List Nat) (b : Int) (w : World) (hS : StoreF w st xs F) :
  Calls Tryz.prog 145 #[ptrV st, .int .i64 b] w fun r w' => Below w.heap.size w w' /\ r = .returned (.tuple #[rteO (lastR xs b), .bool (lastR xs b).isSome]) := by
 obtain ⟨v, hS, rfl⟩ := hS
 exact rLast_any st v xs b w hS
theorem len_F (st : Nat) (xs : List Ent) (F : List Nat) (w : World) (hS : StoreF w st xs F) :
  Calls Tryz.prog 206 #[ptrV st] w fun r w' => w' = w /\ r = .returned (.int .i64 xs.length) := by
 obtain ⟨v, hS, rfl⟩ := hS
 exact rLen_any st v xs w hS
end Go.Proofs.YtglbamalagacgaaGreat.R

namespace Go.Proofs.YtglbamalagacgaaGreat
open Go.RowKit
set_option maxHeartbeats 400000 in
theorem behind_any (a l : Int) (h0 : 0 <= l) (h8 : l <= 8) (ha : 0 <= a) (ha' : a < 256) (w : World) :
  Calls Tryz.prog 137 #[pfxV a l] w fun e w' => e = .returned (.int .i64 (a + wid l)) /\ Below w.heap.size w w' := by
 have hw0 := (wid_bd l).1
 have hw1 := (wid_bd l).2
 go_enter Tryz.func137, Tryz.ntmps137
 go_wp2
 go_quiet ((go_at_call 101; exact Calls.quiet_of_same (size_any l h0 h8 _)))
 go_wp2
 go_ret
 exact ⟨rfl, (by repeat (first | exact Below.refl _ _ | refine below_drewN ?_ _ | refine Below.drew ?_ | refine Below.trans ?_ (Below.mono (by assumption) ?_) | refine Below.alloc ?_ ?_ _ | refine Below.setCell ?_ ?_ _ | omega | (simp; omega) | simp))⟩
def sideI (a l : Int) : Int := a / wid (l + 1) % 2
theorem sideI_bd (a l : Int) : sideI a l = 0 ∨ sideI a l = 1 := by unfold sideI; omega
set_option maxHeartbeats 400000 in
theorem side_any (a l : Int) (h0 : 0 <= l) (h8 : l < 8) (ha : 0 <= a) (ha' : a < 256) (w : World) :
  Calls Tryz.prog 194 #[.int .i64 a, .int .i64 l] w fun e w' => e = .returned (.int .i64 (sideI a l)) /\ w' = w := by
 have hw0 := (wid_bd (l + 1)).1
 have hw1 := (wid_bd (l + 1)).2
 have hwn : ¬ wid (l + 1) = 0 := by omega
 have hd0 : 0 <= a / wid (l + 1) := Int.ediv_nonneg ha (by omega)
 have hd1 : a / wid (l + 1) <= a := Int.ediv_le_self _ ha
 go_enter Tryz.func194, Tryz.ntmps194
 go_wp2_with (go_at_call 101; refine (size_any (l + 1) (by omega) (by omega) _).mono ?_; rintro e w' ⟨rfl, rfl⟩)
 go_ret
 exact ⟨rfl, rfl⟩
def cov (a l : Int) : Int := a - a % wid l
def bestN (xs : List Ent) (a : Int) : Nat -> Option Ent
 | 0 => none
 | n + 1 => match getE xs (cov a n) n with
  | some k => some ⟨cov a n, n, k⟩
  | none => bestN xs a n
def bestE (xs : List Ent) (a : Int) : Option Ent := bestN xs a 9
theorem cov_bd (a l : Int) (ha : 0 <= a) : 0 <= cov a l /\ cov a l <= a := by
 have hw0 := (wid_bd l).1
 have hm := Int.emod_nonneg a (show wid l ≠ 0 by omega)
 unfold cov
 have := Int.mul_ediv_add_emod a (wid l)
 have hq : 0 <= wid l * (a / wid l) := Int.mul_nonneg (by omega) (Int.ediv_nonneg ha (by omega))
 omega
set_option maxHeartbeats 400000 in
theorem lstBest_any (lp : Nat) (xs : List Ent) (F : List Nat) (a : Int) (w : World) (hL : ListF w lp xs F) (ha : 0 <= a) (ha' : a < 256) :
  Calls Tryz.prog 138 #[ptrV lp, .int .i64 a] w fun r w' => Below w.heap.size w w' /\ r = .returned (.tuple #[R.rteO (bestE xs a), .bool (bestE xs a).isSome]) := by
 have HL := hide hL
 have llp := hL.c0
 obtain ⟨st, Fs, c0, hlt, hSt, hnF, rfl⟩ := llp
 have HS := hide hSt
 clear hL hSt hnF
 go_enter Tryz.func138, Tryz.ntmps138
 go_wp2
 go_loopw [6] (fun sl wr => ∃ n : Nat, n <= 9 /\ sl = .int .i64 ((n : Int) - 1) /\ Hid (bestE xs a = bestN xs a n) /\ Below (w.heap.size + 1) (w.alloc R.zR) wr) (fun s _ => (intOf s + 1).toNat)
 case atStart => exact ⟨9, by omega, rfl, rfl, Below.refl _ _⟩
 case round =>
  obtain ⟨n, hn, rfl, hbe, hB⟩ := hrel
  have hBw : Below w.heap.size w wr := ((Below.refl _ w).alloc (Nat.le_refl _) _).trans (hB.mono (by omega))
  have hwl : w.heap.size < wr.heap.size := by have := hB.size; simp at this; omega
  have r0 : wr.cell? ⟨w.heap.size, 0, none⟩ = some (.int .i64 0) := (hB.cell (p := ⟨w.heap.size, 0, none⟩) (by simp)).trans (by simp [go_sem])
  have r1 : wr.cell? ⟨w.heap.size, 1, none⟩ = some (.int .i64 0) := (hB.cell (p := ⟨w.heap.size, 1, none⟩) (by simp)).trans (by simp [go_sem])
  have r2 : wr.cell? ⟨w.heap.size, 2, none⟩ = some (.int .i64 0) := (hB.cell (p := ⟨w.heap.size, 2, none⟩) (by simp)).trans (by simp [go_sem])
  have rf : ∀ o, wr.frozen? ⟨w.heap.size, o, none⟩ = false := fun o => (hB.frozen (p := ⟨w.heap.size, o, none⟩) (by simp)).trans (by simp [go_sem])
  cases n with
  | zero =>
   have hbe' : bestE xs a = none := hbe.out
   have HG := hide hbe'
   clear hbe' hbe c0
   have h0 : decide ((0 : Int) <= ((0 : Nat) : Int) - 1) = false := by simp
   go_wp2
   exact bodyPost_ret (v := .tuple #[rteV 0 0 0, .bool false]) (by simp [results, Tryz.results138, go_sem, *]) rfl ⟨(by repeat (first | exact Below.refl _ _ | refine below_drewN ?_ _ | refine Below.drew ?_ | refine Below.trans ?_ (Below.mono (by assumption) ?_) | refine Below.alloc ?_ ?_ _ | refine Below.setCell ?_ ?_ _ | omega | (simp; omega) | simp)), by rw [HG.out]; rfl⟩
  | succ n =>
   have hn8 : (n : Int) <= 8 := by omega
   have hn0 : (0 : Int) <= (n : Int) := by omega
   have e1 : (((n + 1 : Nat) : Int) - 1) = (n : Int) := by omega
   rw [e1]
   have HB := hide (show bestE xs a = (match getE xs (cov a n) n with | some k => some ⟨cov a n, n, k⟩ | none => bestN xs a n) from hbe.out)
   clear hbe e1
   have c0w : wr.cell? ⟨lp, 0, none⟩ = some (ptrV st) := (hBw.cell (p := ⟨lp, 0, none⟩) hlt).trans c0
   have hcov := hide (covering_any a n hn0 hn8 ha ha' wr)
   have hS2 : StoreF wr st xs Fs := HS.out.later hBw
   go_wp2_with fail
   refine hcov.out.mono ?_
   rintro _ w2 ⟨rfl, hB2⟩
   have c02 : w2.cell? ⟨lp, 0, none⟩ = some (ptrV st) := (hB2.cell (p := ⟨lp, 0, none⟩) (by simp; omega)).trans c0w
   have hl2 : lp < w2.heap.size := by have := hB2.size; omega
   have hl3 : lp < w2.heap.size + 1 := by omega
   have q0 : w2.cell? ⟨w.heap.size, 0, none⟩ = some (.int .i64 0) := (hB2.cell (p := ⟨w.heap.size, 0, none⟩) hwl).trans r0
   have q1 : w2.cell? ⟨w.heap.size, 1, none⟩ = some (.int .i64 0) := (hB2.cell (p := ⟨w.heap.size, 1, none⟩) hwl).trans r1
   have q2 : w2.cell? ⟨w.heap.size, 2, none⟩ = some (.int .i64 0) := (hB2.cell (p := ⟨w.heap.size, 2, none⟩) hwl).trans r2
   have qf : ∀ o, w2.frozen? ⟨w.heap.size, o, none⟩ = false := fun o => (hB2.frozen (p := ⟨w.heap.size, o, none⟩) hwl).trans (rf o)
   have hwl2 : w.heap.size < w2.heap.size := by have := hB2.size; omega
   have hB3 : Below (w.heap.size + 1) (w.alloc R.zR) w2 := hB.trans (hB2.mono (by omega))
   have hcv : a - a % wid n = cov a n := rfl
   rw [hcv]
   have Hget := hide (fun (W : World) (hW : Below wr.heap.size wr W) => get_F st xs Fs (cov a n) n W (hS2.later hW))
   have hB4 : Below wr.heap.size wr (w2.alloc (.cells #[.int .i64 (cov a n), .int .i64 n] 65)).drew := (hB2.alloc hB2.size _).drew
   clear hcov r0 r1 r2 rf c0w hS2 hcv
   generalize hc : cov a n = c at *
   cases hg : getE xs c n with
   | some k =>
    rw [hg] at HB Hget
    have HC := hide hc
    clear hg hc
    have HBR := hide HB.out
    go_wp2
    go_region_held3 (fun w' => w'.cell? ⟨lp, 0, none⟩ = some (ptrV st) /\ w'.cell? ⟨w2.heap.size, 0, none⟩ = some (.int .i64 c) /\ w'.cell? ⟨w2.heap.size, 1, none⟩ = some (.int .i64 n)) (go_keep)
     (first
      | (go_at_call 144; refine (Hget.out _ hB4).mono ?_; rintro _ w3 ⟨hb, rfl⟩; have hc3 := (bcell hb).1))
    have hz3 : w2.heap.size < w3.heap.size := by have := hb.size; simp at this; omega
    have k0 : w3.cell? ⟨w2.heap.size, 0, none⟩ = some (.int .i64 c) := (hc3 _ _ (by simp)).trans (by simp [go_sem])
    have k1 : w3.cell? ⟨w2.heap.size, 1, none⟩ = some (.int .i64 n) := (hc3 _ _ (by simp)).trans (by simp [go_sem])
    have hB5 : Below w2.heap.size w2 w3 := ((Below.refl _ w2).alloc (Nat.le_refl _) _).drew.trans (hb.mono (by simp))
    clear hc3 hb hB4 Hget c02
    have hro := hide (route_any c n k w3)
    simp only [orZ, isS]
    go_wp2_with fail
    refine hro.out.mono ?_
    rintro _ w4 ⟨rfl, hB6⟩
    have hB7 : Below w2.heap.size w2 w4 := hB5.trans (hB6.mono hB5.size)
    have s0 : w4.cell? ⟨w.heap.size, 0, none⟩ = some (.int .i64 0) := (hB7.cell (p := ⟨w.heap.size, 0, none⟩) hwl2).trans q0
    have s1 : w4.cell? ⟨w.heap.size, 1, none⟩ = some (.int .i64 0) := (hB7.cell (p := ⟨w.heap.size, 1, none⟩) hwl2).trans q1
    have s2 : w4.cell? ⟨w.heap.size, 2, none⟩ = some (.int .i64 0) := (hB7.cell (p := ⟨w.heap.size, 2, none⟩) hwl2).trans q2
    have sf : ∀ o, w4.frozen? ⟨w.heap.size, o, none⟩ = false := fun o => (hB7.frozen (p := ⟨w.heap.size, o, none⟩) hwl2).trans (qf o)
    have fin : Below w.heap.size w w4 := hBw.trans ((hB2.trans (hB7.mono hB2.size)).mono (by omega))
    clear hB3 hB5 hB6 hB7 q0 q1 q2 qf k0 k1 hro hB hB2 hBw
    go_wp2
    exact bodyPost_ret (v := .tuple #[rteV c n k, .bool true]) (by simp [results, Tryz.results138, go_sem, *]) rfl ⟨(by repeat (first | exact Below.refl _ _ | refine below_drewN ?_ _ | refine Below.drew ?_ | refine Below.trans ?_ (Below.mono (by assumption) ?_) | refine Below.alloc ?_ ?_ _ | refine Below.setCell ?_ ?_ _ | omega | (simp; omega) | simp)), by rw [HBR.out, <- HC.out]; rfl⟩
   | none =>
    rw [hg] at HB Hget
    clear hg hc
    have HBR := hide HB.out
    have hw1 : IntKind.i64.wrap ((n : Int) - 1) = (n : Int) - 1 := by rw [IntKind.wrap_i64]; omega
    go_wp2
    go_region_held3 (fun w' => w'.cell? ⟨lp, 0, none⟩ = some (ptrV st) /\ w'.cell? ⟨w2.heap.size, 0, none⟩ = some (.int .i64 c) /\ w'.cell? ⟨w2.heap.size, 1, none⟩ = some (.int .i64 n)) (go_keep)
     (first
      | (go_at_call 144; refine (Hget.out _ hB4).mono ?_; rintro _ w3 ⟨hb, rfl⟩; have hc3 := (bcell hb).1))
    have hB5 : Below w2.heap.size w2 w3 := ((Below.refl _ w2).alloc (Nat.le_refl _) _).drew.trans (hb.mono (by simp))
    have fin := hide (hB3.trans (hB5.mono (by omega)))
    clear hc3 hb hB4 Hget c02 hB5 hB3 q0 q1 q2 qf
    simp only [orZ, isS]
    go_wp2
    go_roundw
    case rel => exact ⟨n, by omega, rfl, HBR, fin.out⟩
    case measure => simp [intOf]
end Go.Proofs.YtglbamalagacgaaGreat

import Derived.Test.YtkihifodifkieaaRIns
namespace Go.Proofs.Ytkihifodifkieaa.R
open Go.RowKit

-- what a call may do to a row that it takes: its block, or a new one
def RowTo (w w' : World) (v v' : Value) (xs : List Ent) : Prop :=
  RowAt w' v' xs ∧ w.grownBy w' v.ownBlock ∧ (v'.ownBlock = v.ownBlock ∨ ∃ g, v'.ownBlock = some g ∧ w.heap.size ≤ g)

theorem growZ_length (w : World) (need old : Nat) : (growZ w need old).length = (grownCap w need old 120 - need) * 4 := zeroCells_length _

theorem insert_any (w : World) (v : Value) (xs : List Ent) (i vb : Nat) (x : Ent) (hrow : RowAt w v xs) (hv : OneAt w vb x) (hne : v.ownBlock ≠ some vb) (hi : i ≤ xs.length) (hn : xs.length ≤ 1000000) :
    Calls Try.prog 60 #[v, .int .i64 i, vA vb] w fun e w' => ∃ v', e = .returned v' ∧ RowTo w w' v v' (xs.take i ++ x :: xs.drop i) := by
  have hvw := (Array.getElem?_eq_some_iff.1 (show w.heap[vb]? = _ from hv)).1
  have hM : (1000001 : Nat) ≤ maxLen := by unfold maxLen; omega
  rcases hrow with ⟨rfl, rfl⟩ | ⟨g, cap, sp, rfl, hg, hl, hnc, hcm⟩
  · obtain rfl : i = 0 := by simpa using hi
    refine (insert_nil w vb x hv).mono ?_
    rintro e w' ⟨rfl, rfl⟩
    refine ⟨_, rfl, .inr ⟨w.heap.size, _, growZ w 1 0, rfl, heap_alloc_new w.drew _, ?_, grownCap_ge w 1 0 _, grownCap_le_maxLen w 1 0 _ (by omega)⟩, grownBy_below ((Below.refl _ w).drew.alloc (Nat.le_refl _) _) _, .inr ⟨_, rfl, Nat.le_refl _⟩⟩
    have := grownCap_ge w 1 0 120
    rw [List.length_append, growZ_length, entCells_length]
    simp
    omega
  · have hgw := (Array.getElem?_eq_some_iff.1 hg).1
    have hlx := entCells_length xs
    have hl' := hl
    rw [List.length_append, hlx] at hl'
    by_cases hend : i = xs.length
    · subst hend
      rw [List.take_length, List.drop_length]
      by_cases hroom : xs.length + 1 ≤ cap
      · refine (insert_end w g xs.length cap vb hn hnc hcm _ _ (ins_run_room w g xs.length cap vb xs sp x hv rfl hg hl hroom)).mono ?_
        rintro e w' ⟨rfl, rfl⟩
        refine ⟨_, rfl, .inr ⟨g, cap, sp.drop 4, by simp, setRow_heap w g _ _ _ _ hg, ?_, by simpa using hroom, hcm⟩, grownBy_setRow' g _, .inl rfl⟩
        rw [List.length_append, entCells_length, List.length_drop, List.length_append, List.length_singleton]
        omega
      · refine (insert_end w g xs.length cap vb hn hnc hcm _ _ (ins_run_grow w g xs.length cap vb xs sp x hv rfl hn hg (by omega))).mono ?_
        rintro e w' ⟨rfl, rfl⟩
        have hge := grownCap_ge w (xs.length + 1) cap 120
        refine ⟨_, rfl, .inr ⟨w.heap.size, grownCap w (xs.length + 1) cap 120, growZ w (xs.length + 1) cap, by simp, heap_alloc_new w.drew _, ?_, by simpa using hge, grownCap_le_maxLen w _ _ _ (by omega)⟩, grownBy_below ((Below.refl _ w).drew.alloc (Nat.le_refl _) _) _, .inr ⟨_, rfl, Nat.le_refl _⟩⟩
        rw [List.length_append, growZ_length, entCells_length, List.length_append, List.length_singleton]
        omega
    · have hi' : i < xs.length := by omega
      have hlen : (xs.take i ++ x :: xs.drop i).length = xs.length + 1 := by simp; omega
      by_cases hroom : xs.length + 1 ≤ cap
      · refine (insert_mid_room w g i cap vb xs sp x hv (fun e => hne (by rw [e]; rfl)) hi' hn hcm hg hl hroom).mono ?_
        rintro e w' ⟨rfl, rfl⟩
        refine ⟨_, rfl, .inr ⟨g, cap, sp.drop 4, by rw [hlen], setRow_heap w.drew g _ _ _ _ hg, ?_, by rw [hlen]; exact hroom, hcm⟩, grownBy_setRow g _, .inl rfl⟩
        rw [List.length_append, entCells_length, List.length_drop, hlen]
        omega
      · refine (insert_mid_grow w g i cap vb xs sp x hv hi' hn hnc hg (by omega)).mono ?_
        rintro e w' ⟨rfl, hB, hs, hh⟩
        have hge := grownCap_ge w (xs.length + 1) cap 120
        have hmz := midZ_length w i xs.length cap (by omega)
        refine ⟨_, rfl, .inr ⟨w.heap.size, _, _, by rw [hlen], hh, ?_, by rw [hlen]; exact hge, grownCap_le_maxLen w _ _ _ (by omega)⟩, grownBy_below hB _, .inr ⟨_, rfl, Nat.le_refl _⟩⟩
        rw [List.length_append, entCells_length, List.length_drop, hlen]
        omega

-- slices.Delete(s, i, i + 1)
theorem del_append (w : World) (g i cap : Nat) (xs : List Ent) (sp : List Value) (hi : i < xs.length) (hg : w.heap[g]? = some (.cells (entCells xs ++ sp).toArray 120 (0, 0))) (hl : (entCells xs ++ sp).length = cap * 4) (_hnc : xs.length ≤ cap)
    (ad : Addr) (had : i + 1 < xs.length → ad = ⟨g, (i + 1) * 4, none⟩) (ty : TypeId) (sc : Nat) :
    (Builtin.append_ #[104, 104] ty #[.slice (some ⟨g, 0, none⟩) i cap, .slice (some ad) (xs.length - (i + 1)) sc]).run Try.prog w =
      .ok (.slice (some ⟨g, 0, none⟩) (xs.length - 1) cap) (w.setRow g (entCells (xs.take i ++ xs.drop (i + 1)) ++ (entCells (xs.drop (xs.length - 1)) ++ sp)).toArray) := by
  obtain ⟨inf, hinf, hz, hs, hb⟩ := entInfo
  have hlx := entCells_length xs
  rw [List.length_append, hlx] at hl
  have hd : (entCells (xs.drop (i + 1))).length = (xs.length - (i + 1)) * 4 := by rw [entCells_length, List.length_drop]
  have := run_append_room (P := Try.prog) w 104 ty 120 inf Try.underlying104 hinf g i cap _ hg ad (xs.length - (i + 1)) sc (entCells (xs.drop (i + 1))) (by rw [hd, hs])
    (fun j v hj => by
      have hj1 : j < (entCells (xs.drop (i + 1))).length := (List.getElem?_eq_some_iff.1 hj).1
      rw [had (by omega)]
      exact part_news hg rfl (i + 1) j v hj)
    (entCells_one _) (by omega) (by rw [hs, hd, List.size_toArray, List.length_append, hlx]; omega)
  rw [this, hs, show i + (xs.length - (i + 1)) = xs.length - 1 by omega]
  have e : List.take (i * 4) (entCells xs ++ sp).toArray.toList ++ entCells (xs.drop (i + 1)) ++ List.drop (i * 4 + (entCells (xs.drop (i + 1))).length) (entCells xs ++ sp).toArray.toList = entCells (xs.take i ++ xs.drop (i + 1)) ++ (entCells (xs.drop (xs.length - 1)) ++ sp) := by
    show List.take (i * 4) (entCells xs ++ sp) ++ entCells (xs.drop (i + 1)) ++ List.drop (i * 4 + (entCells (xs.drop (i + 1))).length) (entCells xs ++ sp) = _
    rw [List.take_append_of_le_length (by omega), entCells_take, hd, show i * 4 + (xs.length - (i + 1)) * 4 = (xs.length - 1) * 4 by omega, List.drop_append_of_le_length (by omega), entCells_drop, entCells_append]
  rw [e]

theorem zero_one : (Builtin.zeroCells (rentV 0 0 0 0).cells 1).toList = Ent.z.cells := by simp [Builtin.zeroCells, Value.cells, Ent.cells, Ent.z, List.range_succ]

theorem del_clear (w : World) (g n : Nat) (ys : List Ent) (y : List Value) (sp : List Value) (hg : w.heap[g]? = some (.cells (entCells ys ++ (y ++ sp)).toArray 120 (0, 0))) (hy : y.length = 4) (hn : n = ys.length) (ty : TypeId) (c : Nat) :
    (Builtin.clear_ #[104] ty #[.slice (some ⟨g, n * 4, none⟩) 1 c]).run Try.prog w = .ok (.tuple #[]) (w.setRow g (entCells ys ++ (Ent.z.cells ++ sp)).toArray) := by
  subst hn
  have hlx := entCells_length ys
  have hz3 : Ent.z.cells.length = 4 := rfl
  have := run_clearS (P := Try.prog) (w := w) 104 ty 120 (rentV 0 0 0 0) Try.underlying104 (fun w => by obtain ⟨i, hi, hz, _⟩ := entInfo; simp [zeroValue, typeInfo, hi, hz]) g (ys.length * 4) 1 c (by omega) _ 120 Ent.z.cells hg zero_one
    (by rw [List.size_toArray, List.length_append, List.length_append, hlx, hy, hz3]; omega) (by intro v hv; simp [Ent.cells] at hv; rcases hv with rfl | rfl | rfl | rfl <;> rfl)
  rw [this]
  have e : List.take (ys.length * 4) (entCells ys ++ (y ++ sp)).toArray.toList ++ Ent.z.cells ++ List.drop (ys.length * 4 + Ent.z.cells.length) (entCells ys ++ (y ++ sp)).toArray.toList = entCells ys ++ (Ent.z.cells ++ sp) := by
    show List.take (ys.length * 4) (entCells ys ++ (y ++ sp)) ++ Ent.z.cells ++ List.drop (ys.length * 4 + Ent.z.cells.length) (entCells ys ++ (y ++ sp)) = _
    rw [List.take_left' hlx, ← hlx, drop_past, hz3, ← hy, List.drop_left, List.append_assoc]
  rw [e]

set_option maxHeartbeats 400000 in
set_option maxRecDepth 100000 in
theorem delete_row (w : World) (g i cap : Nat) (xs : List Ent) (sp : List Value) (hi : i < xs.length) (hn : xs.length ≤ 1000000) (hnc : xs.length ≤ cap) (hcm : cap ≤ maxLen)
    (hg : w.heap[g]? = some (.cells (entCells xs ++ sp).toArray 120 (0, 0))) (hl : (entCells xs ++ sp).length = cap * 4) :
    Calls Try.prog 59 #[.slice (some ⟨g, 0, none⟩) xs.length cap, .int .i64 i, .int .i64 ((i : Int) + 1)] w fun e w1 =>
      e = .returned (.slice (some ⟨g, 0, none⟩) (xs.length - 1) cap) ∧ w1 = w.drew.setRow g (entCells (xs.take i ++ xs.drop (i + 1)) ++ (Ent.z.cells ++ sp)).toArray := by
  have hap := fun ad had ty sc => del_append w.drew g i cap xs sp hi hg hl hnc ad had ty sc
  obtain ⟨W1, hW1⟩ : ∃ W1, W1 = w.drew.setRow g (entCells (xs.take i ++ xs.drop (i + 1)) ++ (entCells (xs.drop (xs.length - 1)) ++ sp)).toArray := ⟨_, rfl⟩
  rw [← hW1] at hap
  have hg1 : W1.heap[g]? = some (.cells (entCells (xs.take i ++ xs.drop (i + 1)) ++ (entCells (xs.drop (xs.length - 1)) ++ sp)).toArray 120 (0, 0)) := by rw [hW1]; exact setRow_heap w.drew g _ _ _ _ hg
  have hcl := fun ty c => del_clear W1 g (xs.length - 1) (xs.take i ++ xs.drop (i + 1)) _ sp hg1 (by rw [entCells_length, List.length_drop]; omega) (by simp; omega) ty c
  have hfin : Hid (W1.setRow g (entCells (xs.take i ++ xs.drop (i + 1)) ++ (Ent.z.cells ++ sp)).toArray = w.drew.setRow g (entCells (xs.take i ++ xs.drop (i + 1)) ++ (Ent.z.cells ++ sp)).toArray) := by unfold Hid; rw [hW1, setRow_setRow]
  unfold maxLen at hcm
  generalize hN : xs.length = n at *
  have hb0 : (0 : Int) ≤ (i : Int) := by omega
  have hb1 : (i : Int) ≤ (cap : Int) := by omega
  have hb5 : (0 : Int) ≤ (i : Int) + 1 := by omega
  have hb6 : (i : Int) + 1 ≤ (n : Int) := by omega
  have htn : ((i : Int) + 1).toNat = i + 1 := by omega
  have hb7 : ((i : Int) == (i : Int) + 1) = false := by simp; omega
  have hcl' := fun ty => hcl ty (cap - (n - 1))
  have hb8 : ¬ (cap = n - 1) := by omega
  have hb9 : n - (n - 1) = 1 := by omega
  have hb10 : (n : Int) - 1 ≤ (n : Int) := by omega
  by_cases hcj : cap = i + 1
  · obtain rfl : n = i + 1 := by omega
    subst hcj
    have hd : xs.drop (i + 1) = [] := List.drop_eq_nil_iff.2 (by omega)
    have hx : entCells xs ++ sp = entCells (xs.take i) ++ (entCells (xs.drop i) ++ sp) := by rw [← List.append_assoc, ← entCells_append, List.take_append_drop]
    rw [hx] at hg
    have hc2 := fun ty => del_clear w.drew g i (xs.take i) _ sp hg (by rw [entCells_length, List.length_drop]; omega) (by rw [List.length_take]; omega) ty 1
    rw [hd, List.append_nil]
    have hb11 : (i : Int) ≤ (i : Int) + 1 := by omega
    clear hN hW1 hg1 hg hl hap hcl hcl' hb1 hb6 hb8 hb9 hb10 hd hx hfin
    go_enter Try.func59, Try.ntmps59
    go_wp2
    go_region
    go_wp2
    go_ret
    exact ⟨rfl, rfl⟩
  · have hq := hide fun ty sc => hap ⟨g, (i + 1) * 4, none⟩ (fun _ => rfl) ty sc
    clear hN hW1 hg1 hg hl hap hcl
    go_enter Try.func59, Try.ntmps59
    go_wp2
    go_region_law (refine step_appendB rfl (.tmp 22) (.tmp 25) 104 104 rfl (.slice (some ⟨g, 0, none⟩) i cap) (.slice (some ⟨g, (i + 1) * 4, none⟩) (n - (i + 1)) (cap - (i + 1))) (by simp [Act.eval, Act.put]) (by simp [Act.eval, Act.put]) (.slice (some ⟨g, 0, none⟩) (n - 1) cap) W1 (hq.out _ _) ?_)
    go_wp2
    go_ret
    exact ⟨rfl, hfin.out⟩

theorem delete_any (w : World) (v : Value) (xs : List Ent) (i : Nat) (hrow : RowAt w v xs) (hi : i < xs.length) (hn : xs.length ≤ 1000000) :
    Calls Try.prog 59 #[v, .int .i64 i, .int .i64 ((i : Int) + 1)] w fun e w' => ∃ v', e = .returned v' ∧ RowTo w w' v v' (xs.take i ++ xs.drop (i + 1)) := by
  rcases hrow with ⟨rfl, rfl⟩ | ⟨g, cap, sp, rfl, hg, hl, hnc, hcm⟩
  · simp at hi
  · have hlx := entCells_length xs
    have hl' := hl
    rw [List.length_append, hlx] at hl'
    have hlen : (xs.take i ++ xs.drop (i + 1)).length = xs.length - 1 := by simp; omega
    refine (delete_row w g i cap xs sp hi hn hnc hcm hg hl).mono ?_
    rintro e w' ⟨rfl, rfl⟩
    refine ⟨_, rfl, .inr ⟨g, cap, Ent.z.cells ++ sp, by rw [hlen], setRow_heap w.drew g _ _ _ _ hg, ?_, by rw [hlen]; omega, hcm⟩, grownBy_setRow g _, .inl rfl⟩
    rw [List.length_append, entCells_length, hlen, List.length_append, show Ent.z.cells.length = 4 from rfl]
    omega

end Go.Proofs.Ytkihifodifkieaa.R

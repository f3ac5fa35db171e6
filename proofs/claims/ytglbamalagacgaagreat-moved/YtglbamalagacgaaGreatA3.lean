import Derived.Test.YtglbamalagacgaaGreatA2
namespace Go.Proofs.YtglbamalagacgaaGreat.R
open Go.RowKit
def Ent.cells (x : Ent) : List Value := [.int .i64 x.k, .int .i64 x.a, .int .i64 x.l, .int .i64 x.n]
def entCells (xs : List Ent) : List Value := xs.flatMap Ent.cells
theorem entCells_cons (x : Ent) (xs : List Ent) : entCells (x :: xs) = x.cells ++ entCells xs := rfl
theorem entCells_append (xs ys : List Ent) : entCells (xs ++ ys) = entCells xs ++ entCells ys := by simp [entCells]
theorem entCells_length (xs : List Ent) : (entCells xs).length = xs.length * 4 := by
 induction xs with
 | nil => rfl
 | cons x xs ih => rw [entCells_cons, List.length_append, ih]; simp [Ent.cells]; omega
theorem entCells_take (xs : List Ent) (i : Nat) : (entCells xs).take (i * 4) = entCells (xs.take i) := by
 induction i generalizing xs with
 | zero => simp [entCells]
 | succ i ih =>
  cases xs with
  | nil => simp [entCells]
  | cons x xs => rw [List.take_succ_cons, entCells_cons, entCells_cons, <- ih xs, show (i + 1) * 4 = i * 4 + 1 + 1 + 1 + 1 by omega]; rfl
theorem entCells_drop (xs : List Ent) (i : Nat) : (entCells xs).drop (i * 4) = entCells (xs.drop i) := by
 induction i generalizing xs with
 | zero => simp
 | succ i ih =>
  cases xs with
  | nil => simp [entCells]
  | cons x xs => rw [List.drop_succ_cons, entCells_cons, <- ih xs, show (i + 1) * 4 = i * 4 + 1 + 1 + 1 + 1 by omega]; rfl
theorem entCells_one (xs : List Ent) : ∀ v ∈ entCells xs, v.oneCell' = true := by
 intro v hv
 obtain ⟨x, _, hx⟩ := List.mem_flatMap.1 hv
 simp [Ent.cells] at hx
 rcases hx with rfl | rfl | rfl | rfl <;> rfl
theorem entCells_get (xs : List Ent) (i : Nat) (h : i < xs.length) : (entCells xs)[i * 4]? = some (.int .i64 (xs[i]?.getD Ent.z).k) /\ (entCells xs)[i * 4 + 1]? = some (.int .i64 (xs[i]?.getD Ent.z).a) /\ (entCells xs)[i * 4 + 2]? = some (.int .i64 (xs[i]?.getD Ent.z).l) /\ (entCells xs)[i * 4 + 3]? = some (.int .i64 (xs[i]?.getD Ent.z).n) := by
 induction i generalizing xs with
 | zero =>
  cases xs with
  | nil => simp at h
  | cons x xs => exact ⟨rfl, rfl, rfl, rfl⟩
 | succ i ih =>
  cases xs with
  | nil => simp at h
  | cons x xs =>
   have := ih xs (by simpa using h)
   rw [entCells_cons, show (i + 1) * 4 = i * 4 + 1 + 1 + 1 + 1 by omega]
   simpa [Ent.cells] using this
def RowAt (w : World) (v : Value) (xs : List Ent) : Prop :=
 (v = .slice none 0 0 /\ xs = []) ∨
 ∃ g cap sp, v = .slice (some ⟨g, 0, none⟩) xs.length cap /\ w.heap[g]? = some (.cells (entCells xs ++ sp).toArray 195 (0, 0)) /\ (entCells xs ++ sp).length = cap * 4 /\ xs.length <= cap /\ cap <= maxLen
theorem RowAt.ents {w : World} {g n cap : Nat} {xs : List Ent} (h : RowAt w (.slice (some ⟨g, 0, none⟩) n cap) xs) : EntsAt w g xs := by
 rcases h with ⟨h, _⟩ | ⟨g', cap', sp, hv, hg, _, _, _⟩
 ·cases h
 ·cases hv
  intro i hi
  obtain ⟨h0, h1, h2, h3⟩ := entCells_get xs i hi
  have hl := entCells_length xs
  simp only [World.cell?, hg]
  refine ⟨?_, ?_, ?_, ?_⟩ <;> simp only [Option.isSome_none, List.getElem?_toArray, Bool.false_eq_true, if_false] <;> rw [List.getElem?_append_left (by omega)] <;> assumption
theorem RowAt.kept {w w' : World} {v : Value} {xs : List Ent} (h : RowAt w v xs) (hk : ∀ g, v.ownBlock = some g -> w'.heap[g]? = w.heap[g]?) : RowAt w' v xs := by
 rcases h with h | ⟨g, cap, sp, rfl, hg, r⟩
 ·exact .inl h
 ·exact .inr ⟨g, cap, sp, rfl, (hk g rfl).trans hg, r⟩
end Go.Proofs.YtglbamalagacgaaGreat.R

namespace Go.Proofs.YtglbamalagacgaaGreat.R
open Go.RowKit
theorem entInfo : ∃ i, Tryz.prog.info? 195 = some i /\ i.zero = some (rentV 0 0 0 0) /\ i.size = 4 /\ i.bytes = 32 := by
 have h : (Tryz.prog.info? 195).map (fun i => (i.zero, i.size, i.bytes)) = some (some (rentV 0 0 0 0), 4, 32) := by kernel_rfl
 cases hq : Tryz.prog.info? 195 with
 | none => simp [hq] at h
 | some i => simp [hq] at h; exact ⟨i, rfl, h.1, h.2.1, h.2.2⟩
abbrev vA (vb : Nat) : Value := .slice (some ⟨vb, 0, none⟩) 1 1
def OneAt (w : World) (vb : Nat) (x : Ent) : Prop := w.heap[vb]? = some (.cells x.cells.toArray 195 (0, 0))
theorem OneAt.news {w : World} {vb : Nat} {x : Ent} (h : OneAt w vb x) : ∀ j u, x.cells[j]? = some u -> w.cell? ((⟨vb, 0, none⟩ : Addr).add j) = some u := by
 intro j u hj
 unfold OneAt at h
 rw [Addr.add_lit]
 simp [World.cell?, h, hj]
def growZ (w : World) (need old : Nat) : List Value := (Builtin.zeroCells (rentV 0 0 0 0).cells (grownCap w need old 195 - need)).toList
theorem ins_run_nil (w : World) (vb : Nat) (x : Ent) (hv : OneAt w vb x) (ty : TypeId) :
  (Builtin.append_ #[184, 184] ty #[.slice none 0 0, vA vb]).run Tryz.prog w =
   .ok (.slice (some ⟨w.heap.size, 0, none⟩) 1 (grownCap w 1 0 195)) (w.drew.alloc (.cells (entCells [x] ++ growZ w 1 0).toArray 195)) := by
 obtain ⟨i, hi, hz, hs, hb⟩ := entInfo
 have := run_append_nil (P := Tryz.prog) w 184 ty 195 i _ Tryz.underlying184 hi hz ⟨vb, 0, none⟩ 1 1 x.cells (by simp [hs, Ent.cells]) hv.news (by omega) (by omega) (by rw [hb]; omega)
 rw [this]
 have e : x.cells.toArray ++ Builtin.zeroCells (rentV 0 0 0 0).cells (grownCap w 1 0 195 - 1) = (entCells [x] ++ growZ w 1 0).toArray := by
  apply Array.ext'
  simp [entCells, growZ]
 rw [e]
set_option maxHeartbeats 400000 in
theorem insert_nil (w : World) (vb : Nat) (x : Ent) (hv : OneAt w vb x) :
  Calls Tryz.prog 148 #[.slice none 0 0, .int .i64 0, vA vb] w fun e w' =>
   e = .returned (.slice (some ⟨w.heap.size, 0, none⟩) 1 (grownCap w 1 0 195)) /\ w' = w.drew.alloc (.cells (entCells [x] ++ growZ w 1 0).toArray 195) := by
 have hr := ins_run_nil w vb x hv
 go_enter Tryz.func148, Tryz.ntmps148
 go_wp2_with (at_builtin; refine wpList_appendB rfl _ _ 184 184 rfl _ _ rfl rfl _ _ (hr _) ?_)
 go_ret
 exact ⟨rfl, rfl⟩
theorem ins_run_room (w : World) (g n cap vb : Nat) (xs : List Ent) (sp : List Value) (x : Ent) (hv : OneAt w vb x) (hn : n = xs.length) (hg : w.heap[g]? = some (.cells (entCells xs ++ sp).toArray 195 (0, 0))) (hl : (entCells xs ++ sp).length = cap * 4) (hroom : n + 1 <= cap) (ty : TypeId) :
  (Builtin.append_ #[184, 184] ty #[.slice (some ⟨g, 0, none⟩) n cap, vA vb]).run Tryz.prog w =
   .ok (.slice (some ⟨g, 0, none⟩) (n + 1) cap) (w.setRow g (entCells (xs ++ [x]) ++ sp.drop 4).toArray) := by
 obtain ⟨i, hi, hz, hs, hb⟩ := entInfo
 have hlx := entCells_length xs
 have hl3 : x.cells.length = 4 := rfl
 rw [List.length_append, hlx] at hl
 have := run_append_room (P := Tryz.prog) w 184 ty 195 i Tryz.underlying184 hi g n cap _ hg ⟨vb, 0, none⟩ 1 1 x.cells (by simp [hs, Ent.cells]) hv.news (by have := entCells_one [x]; simpa [entCells] using this) hroom
  (by rw [hs, hn, List.size_toArray, List.length_append, hlx, hl3]; omega)
 rw [this, hs, hn]
 have e : (List.take (xs.length * 4) (entCells xs ++ sp).toArray.toList ++ x.cells ++ List.drop (xs.length * 4 + x.cells.length) (entCells xs ++ sp).toArray.toList) = entCells (xs ++ [x]) ++ sp.drop 4 := by
  rw [List.take_left' hlx, show xs.length * 4 + x.cells.length = (entCells xs).length + 4 by rw [hlx, hl3], drop_past, entCells_append]
  simp [entCells]
 rw [e]
theorem ins_run_grow (w : World) (g n cap vb : Nat) (xs : List Ent) (sp : List Value) (x : Ent) (hv : OneAt w vb x) (hn : n = xs.length) (hbig : n <= 1000000) (hg : w.heap[g]? = some (.cells (entCells xs ++ sp).toArray 195 (0, 0))) (hroom : cap < n + 1) (ty : TypeId) :
  (Builtin.append_ #[184, 184] ty #[.slice (some ⟨g, 0, none⟩) n cap, vA vb]).run Tryz.prog w =
   .ok (.slice (some ⟨w.heap.size, 0, none⟩) (n + 1) (grownCap w (n + 1) cap 195)) (w.drew.alloc (.cells (entCells (xs ++ [x]) ++ growZ w (n + 1) cap).toArray 195)) := by
 obtain ⟨i, hi, hz, hs, hb⟩ := entInfo
 have hlx := entCells_length xs
 have := run_append_grow (P := Tryz.prog) w 184 ty 195 i _ Tryz.underlying184 hi hz ⟨g, 0, none⟩ n cap (entCells xs) (by rw [hlx, hs, hn])
  (fun j v hj => by
   rw [Addr.add_lit]
   have : j < (entCells xs).length := (List.getElem?_eq_some_iff.1 hj).1
   simp only [World.cell?, hg]
   simp [List.getElem?_append_left this, hj])
  ⟨vb, 0, none⟩ 1 1 x.cells (by simp [hs, Ent.cells]) hv.news hroom (by omega) (growslice_fits hroom (by rw [hb]; omega))
 rw [this]
 have e : (entCells xs).toArray ++ x.cells.toArray ++ Builtin.zeroCells (rentV 0 0 0 0).cells (grownCap w (n + 1) cap 195 - (n + 1)) = (entCells (xs ++ [x]) ++ growZ w (n + 1) cap).toArray := by
  apply Array.ext'
  simp [entCells, growZ]
 rw [e]
set_option maxHeartbeats 400000 in
theorem insert_end (w : World) (g n cap vb : Nat) (_hn : n <= 1000000) (_hnc : n <= cap) (_hc : cap <= maxLen) (v' : Value) (w' : World) (hr : ∀ ty, (Builtin.append_ #[184, 184] ty #[.slice (some ⟨g, 0, none⟩) n cap, vA vb]).run Tryz.prog w = .ok v' w') :
  Calls Tryz.prog 148 #[.slice (some ⟨g, 0, none⟩) n cap, .int .i64 n, vA vb] w fun e w1 => e = .returned v' /\ w1 = w' := by
 unfold maxLen at _hc
 go_enter Tryz.func148, Tryz.ntmps148
 go_wp2_with (at_builtin; refine wpList_appendB rfl _ _ 184 184 rfl _ _ rfl rfl _ _ (hr _) ?_)
 all_goals (go_ret; exact ⟨rfl, rfl⟩)
theorem ins_copy1 (w : World) (g i cap : Nat) (xs : List Ent) (sp : List Value) (hi : i < xs.length) (hg : w.heap[g]? = some (.cells (entCells xs ++ sp).toArray 195 (0, 0))) (hl : (entCells xs ++ sp).length = cap * 4) (hroom : xs.length + 1 <= cap) (ty : TypeId) (dc sc : Nat) :
  (Builtin.copy_ #[184, 184] ty #[.slice (some ⟨g, (i + 1) * 4, none⟩) (xs.length - i) dc, .slice (some ⟨g, i * 4, none⟩) (xs.length + 1 - i) sc]).run Tryz.prog w =
   .ok (goInt ((xs.length - i : Nat) : Int)) (w.setRow g (entCells (xs.take (i + 1)) ++ entCells (xs.drop i) ++ sp.drop 4).toArray) := by
 have hlx := entCells_length xs
 rw [List.length_append, hlx] at hl
 have hmin : Nat.min (xs.length + 1 - i) (xs.length - i) = xs.length - i := by simp only [Nat.min_def]; split <;> omega
 have hd : (entCells (xs.drop i)).length = (xs.length - i) * 4 := by rw [entCells_length, List.length_drop]
 have := run_copyS (P := Tryz.prog) (w := w) 184 184 ty 195 4 g ((i + 1) * 4) (xs.length - i) dc ⟨g, i * 4, none⟩ (xs.length + 1 - i) sc _ 195 (entCells (xs.drop i)) Tryz.underlying184
  (by obtain ⟨i, h1, _, h3, _⟩ := entInfo; rw [h1]; simp [h3]) hg (by rw [hd, hmin])
  (fun j v hj => by
   rw [Addr.add_lit]
   have hj2 : j < (entCells (xs.drop i)).length := (List.getElem?_eq_some_iff.1 hj).1
   rw [<- entCells_drop, List.getElem?_drop] at hj
   simp only [World.cell?, hg]
   simp [List.getElem?_append_left (show i * 4 + j < (entCells xs).length by omega), hj])
  (by rw [List.size_toArray, List.length_append, hd, hlx]; omega) (entCells_one _)
 rw [this, hmin]
 have e : List.take ((i + 1) * 4) (entCells xs ++ sp).toArray.toList ++ entCells (xs.drop i) ++ List.drop ((i + 1) * 4 + (entCells (xs.drop i)).length) (entCells xs ++ sp).toArray.toList = entCells (xs.take (i + 1)) ++ entCells (xs.drop i) ++ sp.drop 4 := by
  have h1 : List.take ((i + 1) * 4) (entCells xs ++ sp) = entCells (xs.take (i + 1)) := by
   rw [List.take_append_of_le_length (by omega), entCells_take]
  have h2 : (i + 1) * 4 + (entCells (xs.drop i)).length = (entCells xs).length + 4 := by rw [hd, hlx]; omega
  show List.take ((i + 1) * 4) (entCells xs ++ sp) ++ _ ++ List.drop _ (entCells xs ++ sp) = _
  rw [h1, h2, drop_past]
 rw [e]
theorem ins_copy2 (w : World) (g i vb : Nat) (xs : List Ent) (sp2 : List Value) (x : Ent) (hv : OneAt w vb x) (hi : i < xs.length) (hg : w.heap[g]? = some (.cells (entCells (xs.take (i + 1)) ++ entCells (xs.drop i) ++ sp2).toArray 195 (0, 0))) (ty : TypeId) (dc : Nat) :
  (Builtin.copy_ #[184, 184] ty #[.slice (some ⟨g, i * 4, none⟩) (xs.length + 1 - i) dc, vA vb]).run Tryz.prog w =
   .ok (goInt ((1 : Nat) : Int)) (w.setRow g (entCells (xs.take i ++ x :: xs.drop i) ++ sp2).toArray) := by
 have hmin : Nat.min 1 (xs.length + 1 - i) = 1 := by simp only [Nat.min_def]; split <;> omega
 have hl3 : x.cells.length = 4 := rfl
 have ht : (entCells (xs.take (i + 1))).length = (i + 1) * 4 := by rw [entCells_length, List.length_take]; congr 1; omega
 have ht' : (entCells (xs.take i)).length = i * 4 := by rw [entCells_length, List.length_take]; congr 1; omega
 have := run_copyS (P := Tryz.prog) (w := w) 184 184 ty 195 4 g (i * 4) (xs.length + 1 - i) dc ⟨vb, 0, none⟩ 1 1 _ 195 x.cells Tryz.underlying184
  (by obtain ⟨i, h1, _, h3, _⟩ := entInfo; rw [h1]; simp [h3]) hg (by rw [hl3, hmin]) hv.news
  (by rw [List.size_toArray, List.length_append, List.length_append, ht, hl3]; omega) (by have := entCells_one [x]; simpa [entCells] using this)
 rw [this, hmin]
 have e : List.take (i * 4) (entCells (xs.take (i + 1)) ++ entCells (xs.drop i) ++ sp2).toArray.toList ++ x.cells ++ List.drop (i * 4 + x.cells.length) (entCells (xs.take (i + 1)) ++ entCells (xs.drop i) ++ sp2).toArray.toList = entCells (xs.take i ++ x :: xs.drop i) ++ sp2 := by
  show List.take (i * 4) (entCells (xs.take (i + 1)) ++ entCells (xs.drop i) ++ sp2) ++ x.cells ++ List.drop (i * 4 + x.cells.length) (entCells (xs.take (i + 1)) ++ entCells (xs.drop i) ++ sp2) = _
  have h1 : List.take (i * 4) (entCells (xs.take (i + 1)) ++ entCells (xs.drop i) ++ sp2) = entCells (xs.take i) := by
   rw [List.append_assoc, List.take_append_of_le_length (by omega), entCells_take, List.take_take, show min i (i + 1) = i by omega]
  have h2 : i * 4 + x.cells.length = (entCells (xs.take (i + 1))).length := by rw [hl3, ht]; omega
  rw [h1, h2, List.append_assoc (entCells (xs.take (i + 1))), List.drop_left, entCells_append, entCells_cons]
  simp
 rw [e]
theorem entSize (w : World) : (Go.sizeOf 195).run Tryz.prog w = .ok 4 w := by
 obtain ⟨i, hi, _, hs, _⟩ := entInfo
 simp [sizeOf, typeInfo, hi, hs]
theorem ins_overlaps (w : World) (g vb off lb cb kB : Nat) (cur : Array Value) (x : Ent) (hv : OneAt w vb x) (hne : vb ≠ g) (hg : w.heap[g]? = some (.cells cur 195 (0, 0))) (hk : cur.size = kB) (hkB : kB ≠ 0) :
  (callFunc 152 #[vA vb, .slice (some ⟨g, off, none⟩) lb cb]).run Tryz.prog w = .ok (.value (.bool false)) w := by
 have hv' : w.heap[vb]? = some (.cells x.cells.toArray 195 (0, 0)) := hv
 rw [run_callFunc_extern Tryz.func152 (by kernel_rfl) (by kernel_rfl) (by kernel_rfl) (e := Extern.SlicesOverlaps.overlaps #[184, 184] #[4]) (by kernel_rfl),
  Lib.run_overlaps_apart w 184 4 195 Tryz.underlying184 4 entSize ⟨vb, 0, none⟩ ⟨g, off, none⟩ 1 1 lb cb hne 195 195 4 kB (by simp [World.shape?, hv', Ent.cells]) (by simp [World.shape?, hg, hk]) hkB (by simp [World.frozen?, hv']) (by simp [World.frozen?, hv'])]
 rfl
set_option maxHeartbeats 400000 in
theorem insert_mid_room (w : World) (g i cap vb : Nat) (xs : List Ent) (sp : List Value) (x : Ent) (hv : OneAt w vb x) (hne : vb ≠ g) (hi : i < xs.length) (hn : xs.length <= 1000000) (_hc : cap <= maxLen)
  (hg : w.heap[g]? = some (.cells (entCells xs ++ sp).toArray 195 (0, 0))) (hl : (entCells xs ++ sp).length = cap * 4) (hroom : xs.length + 1 <= cap) :
  Calls Tryz.prog 148 #[.slice (some ⟨g, 0, none⟩) xs.length cap, .int .i64 i, vA vb] w fun e w1 =>
   e = .returned (.slice (some ⟨g, 0, none⟩) (xs.length + 1) cap) /\ w1 = w.drew.setRow g (entCells (xs.take i ++ x :: xs.drop i) ++ sp.drop 4).toArray := by
 have hov := fun off lb cb => ins_overlaps w g vb off lb cb (cap * 4) _ x hv hne hg (by simpa using hl) (by omega)
 have hcp1 := fun ty dc sc => ins_copy1 w.drew g i cap xs sp hi hg hl hroom ty dc sc
 obtain ⟨W1, hW1⟩ : ∃ W1, W1 = w.drew.setRow g (entCells (xs.take (i + 1)) ++ entCells (xs.drop i) ++ sp.drop 4).toArray := ⟨_, rfl⟩
 rw [<- hW1] at hcp1
 have hg1 : W1.heap[g]? = some (.cells (entCells (xs.take (i + 1)) ++ entCells (xs.drop i) ++ sp.drop 4).toArray 195 (0, 0)) := by rw [hW1]; exact setRow_heap w.drew g _ _ _ _ hg
 have hv1 : OneAt W1 vb x := by unfold OneAt; rw [hW1]; exact (setRow_other w.drew g vb _ hne).trans hv
 have hcp2 := fun ty dc => ins_copy2 W1 g i vb xs (sp.drop 4) x hv1 hi hg1 ty dc
 have hfin : Hid (W1.setRow g (entCells (xs.take i ++ x :: xs.drop i) ++ sp.drop 4).toArray = w.drew.setRow g (entCells (xs.take i ++ x :: xs.drop i) ++ sp.drop 4).toArray) := by unfold Hid; rw [hW1, setRow_setRow]
 unfold maxLen at _hc
 generalize hnn : xs.length = n at *
 have hb0 : (0 : Int) <= (i : Int) := by omega
 have hb1 : (i : Int) <= (n : Int) := by omega
 have hb2 : ¬ ((i : Int) = (n : Int)) := by omega
 have hb3 : ¬ (cap = i) := by omega
 have hb4 : ¬ (cap = i + 1) := by omega
 have hw1 : IntKind.i64.wrap ((i : Int) + 1) = (i : Int) + 1 := by rw [IntKind.wrap_i64]; omega
 have hb5 : (0 : Int) <= (i : Int) + 1 := by omega
 have hb6 : (i : Int) + 1 <= (n : Int) + 1 := by omega
 have htn : ((i : Int) + 1).toNat = i + 1 := by omega
 have hb7 : (i : Int) <= (n : Int) + 1 := by omega
 have HW := hide hW1
 have HN := hide hnn
 clear hW1 hnn hg1 hv1 hv hg hl
 go_enter Tryz.func148, Tryz.ntmps148
 go_wp2_with (simp only [hov])
 go_region_law (refine step_copyB rfl _ _ 184 184 rfl _ _ (by simp [Act.eval, Act.put]) (by simp [Act.eval, Act.put]) _ _ (hcp1 _ _ _) ?_)
 go_wp2_with (at_builtin; refine wpList_copyB rfl _ _ 184 184 rfl _ _ rfl rfl _ _ (hcp2 _ _) ?_)
 go_ret
 exact ⟨rfl, hfin.out⟩
theorem copyAt (w : World) (g : Nat) (A B : List Ent) (Z : List Value) (hg : w.heap[g]? = some (.cells (entCells A ++ Z).toArray 195 (0, 0))) (ty : TypeId) (off dLen dCap : Nat) (ad : Addr) (sLen sCap : Nat) (hoff : off = A.length * 4)
  (hmin : Nat.min sLen dLen = B.length) (hsrc : ∀ j v, (entCells B)[j]? = some v -> w.cell? (ad.add j) = some v) (hfit : B.length * 4 <= Z.length) :
  (Builtin.copy_ #[184, 184] ty #[.slice (some ⟨g, off, none⟩) dLen dCap, .slice (some ad) sLen sCap]).run Tryz.prog w =
   .ok (goInt (B.length : Int)) (w.setRow g (entCells (A ++ B) ++ Z.drop (B.length * 4)).toArray) := by
 have hA := entCells_length A
 have hB := entCells_length B
 subst hoff
 have := run_copyS (P := Tryz.prog) (w := w) 184 184 ty 195 4 g (A.length * 4) dLen dCap ad sLen sCap _ 195 (entCells B) Tryz.underlying184
  (by obtain ⟨i, h1, _, h3, _⟩ := entInfo; rw [h1]; simp [h3]) hg (by rw [hB, hmin]) hsrc
  (by rw [List.size_toArray, List.length_append, hA, hB]; omega) (entCells_one _)
 rw [this, hmin]
 have e : List.take (A.length * 4) (entCells A ++ Z).toArray.toList ++ entCells B ++ List.drop (A.length * 4 + (entCells B).length) (entCells A ++ Z).toArray.toList = entCells (A ++ B) ++ Z.drop (B.length * 4) := by
  show List.take (A.length * 4) (entCells A ++ Z) ++ entCells B ++ List.drop (A.length * 4 + (entCells B).length) (entCells A ++ Z) = _
  rw [List.take_left' hA, <- hA, drop_past, entCells_append, hB]
 rw [e]
theorem part_news {w : World} {g : Nat} {cur : List Value} {xs : List Ent} {t : TypeId} {fz : Nat × Nat} {sp : List Value} (hg : w.heap[g]? = some (.cells cur.toArray t fz)) (hc : cur = entCells xs ++ sp) (i : Nat) :
  ∀ j v, (entCells (xs.drop i))[j]? = some v -> w.cell? ((⟨g, i * 4, none⟩ : Addr).add j) = some v := by
 intro j v hj
 subst hc
 rw [Addr.add_lit]
 have hj2 : j < (entCells (xs.drop i)).length := (List.getElem?_eq_some_iff.1 hj).1
 have hd : (entCells (xs.drop i)).length = (xs.length - i) * 4 := by rw [entCells_length, List.length_drop]
 have hl := entCells_length xs
 rw [<- entCells_drop, List.getElem?_drop] at hj
 simp only [World.cell?, hg]
 simp [List.getElem?_append_left (show i * 4 + j < (entCells xs).length by omega), hj]
theorem zeroCells_length (n : Nat) : (Builtin.zeroCells (rentV 0 0 0 0).cells n).toList.length = n * 4 := by
 have : (rentV 0 0 0 0).cells.size = 4 := rfl
 rw [Array.length_toList, size_zeroCells, this]
def midZ (w : World) (i n cap : Nat) : List Value := (Builtin.zeroCells (rentV 0 0 0 0).cells (n + 1 - i)).toList ++ (Builtin.zeroCells (rentV 0 0 0 0).cells (grownCap w (n + 1) cap 195 - (n + 1))).toList
theorem midZ_length (w : World) (i n cap : Nat) (h : i <= n + 1) : (midZ w i n cap).length + i * 4 = grownCap w (n + 1) cap 195 * 4 := by
 have := grownCap_ge w (n + 1) cap 195
 unfold midZ
 rw [List.length_append, zeroCells_length, zeroCells_length]
 omega
theorem ins_run_mid (w : World) (g i cap : Nat) (xs : List Ent) (sp : List Value) (hi : i < xs.length) (hn : xs.length <= 1000000)
  (hg : w.heap[g]? = some (.cells (entCells xs ++ sp).toArray 195 (0, 0))) (hroom : cap < xs.length + 1) (ty : TypeId) :
  (Builtin.append_ #[184, 3] ty #[.slice (some ⟨g, 0, none⟩) i cap, .int .i64 ((xs.length : Int) + 1 - (i : Int))]).run Tryz.prog w =
   .ok (.slice (some ⟨w.heap.size, 0, none⟩) (xs.length + 1) (grownCap w (xs.length + 1) cap 195)) (w.drew.alloc (.cells (entCells (xs.take i) ++ midZ w i xs.length cap).toArray 195)) := by
 obtain ⟨inf, hinf, hz, hs, hb⟩ := entInfo
 have hlt : (entCells (xs.take i)).length = i * 4 := by rw [entCells_length, List.length_take, Nat.min_eq_left (by omega)]
 have := run_append_grow_zeros (P := Tryz.prog) w 184 3 ty 195 inf _ .i64 .i64 Tryz.underlying184 Tryz.underlying3 hinf hz ⟨g, 0, none⟩ i cap (entCells (xs.take i)) (by rw [hlt, hs])
  (fun j v hj => by
   rw [Addr.add_lit]
   have hj1 : j < (entCells (xs.take i)).length := (List.getElem?_eq_some_iff.1 hj).1
   rw [<- entCells_take, List.getElem?_take_of_lt (by omega)] at hj
   have hj2 : j < (entCells xs).length := (List.getElem?_eq_some_iff.1 hj).1
   simp only [World.cell?, hg]
   simp [List.getElem?_append_left hj2, hj])
  (xs.length + 1 - i) (by omega) (by rw [hs]; omega) (by omega) (by omega) (by rw [hb]; omega) (growslice_fits (by omega) (by rw [hb]; omega))
 rw [show i + (xs.length + 1 - i) = xs.length + 1 by omega, show ((xs.length + 1 - i : Nat) : Int) = (xs.length : Int) + 1 - (i : Int) by omega] at this
 rw [this]
 have e : (entCells (xs.take i)).toArray ++ Builtin.zeroCells (rentV 0 0 0 0).cells (xs.length + 1 - i) ++ Builtin.zeroCells (rentV 0 0 0 0).cells (grownCap w (xs.length + 1) cap 195 - (xs.length + 1)) = (entCells (xs.take i) ++ midZ w i xs.length cap).toArray := by
  apply Array.ext'
  simp [midZ]
 rw [e]
set_option maxHeartbeats 400000 in
set_option maxRecDepth 100000 in
theorem insert_mid_grow (w : World) (g i cap vb : Nat) (xs : List Ent) (sp : List Value) (x : Ent) (hv : OneAt w vb x) (hi : i < xs.length) (hn : xs.length <= 1000000) (hnc : xs.length <= cap)
  (hg : w.heap[g]? = some (.cells (entCells xs ++ sp).toArray 195 (0, 0))) (hroom : cap < xs.length + 1) :
  Calls Tryz.prog 148 #[.slice (some ⟨g, 0, none⟩) xs.length cap, .int .i64 i, vA vb] w fun e w1 =>
   e = .returned (.slice (some ⟨w.heap.size, 0, none⟩) (xs.length + 1) (grownCap w (xs.length + 1) cap 195)) /\ Below w.heap.size w w1 /\ w1.heap.size = w.heap.size + 1 ∧
   w1.heap[w.heap.size]? = some (.cells (entCells (xs.take i ++ x :: xs.drop i) ++ (midZ w i xs.length cap).drop (4 + (xs.length - i) * 4)).toArray 195 (0, 0)) := by
 have hlt : (xs.take i).length = i := by rw [List.length_take, Nat.min_eq_left (by omega)]
 have hgw := (Array.getElem?_eq_some_iff.1 hg).1
 have hvw := (Array.getElem?_eq_some_iff.1 (show w.heap[vb]? = _ from hv)).1
 have hmz := midZ_length w i xs.length cap (by omega)
 have hge := grownCap_ge w (xs.length + 1) cap 195
 have hap := ins_run_mid w g i cap xs sp hi hn hg hroom
 -- behind the append
 obtain ⟨W1, hW1⟩ : ∃ W1, W1 = w.drew.alloc (.cells (entCells (xs.take i) ++ midZ w i xs.length cap).toArray 195) := ⟨_, rfl⟩
 rw [<- hW1] at hap
 have hB1 : Below w.heap.size w W1 := by rw [hW1]; exact (Below.refl _ w).drew.alloc (Nat.le_refl _) _
 have hs1 : W1.heap.size = w.heap.size + 1 := by rw [hW1]; simp
 have hg1 : W1.heap[w.heap.size]? = some (.cells (entCells (xs.take i) ++ midZ w i xs.length cap).toArray 195 (0, 0)) := by rw [hW1]; exact heap_alloc_new w.drew _
 have hv1 : OneAt W1 vb x := (hB1.block vb hvw).trans hv
 -- the entry is laid
 have hcp1 := fun ty dLen dCap (hd : 0 < dLen) => copyAt W1 w.heap.size (xs.take i) [x] (midZ w i xs.length cap) hg1 ty (i * 4) dLen dCap ⟨vb, 0, none⟩ 1 1 (by rw [hlt]) (by simp only [Nat.min_def, List.length_singleton]; split <;> omega) (by have := hv1.news; simpa [entCells] using this) (by simp only [List.length_singleton]; omega)
 obtain ⟨W2, hW2⟩ : ∃ W2, W2 = W1.setRow w.heap.size (entCells (xs.take i ++ [x]) ++ (midZ w i xs.length cap).drop ([x].length * 4)).toArray := ⟨_, rfl⟩
 rw [<- hW2] at hcp1
 have hB2 : Below w.heap.size w W2 := by rw [hW2]; exact hB1.trans ⟨rfl, rfl, rfl, by simp [World.setRow], fun k hk => setRow_other W1 _ k _ (by omega)⟩
 have hs2 : W2.heap.size = w.heap.size + 1 := by rw [hW2]; simpa [World.setRow] using hs1
 have hg2 : W2.heap[w.heap.size]? = some (.cells (entCells (xs.take i ++ [x]) ++ (midZ w i xs.length cap).drop ([x].length * 4)).toArray 195 (0, 0)) := by rw [hW2]; exact setRow_heap W1 _ _ _ _ _ hg1
 -- the rest is laid behind it
 have hgo : W2.drew.heap[g]? = some (.cells (entCells xs ++ sp).toArray 195 (0, 0)) := (hB2.block g hgw).trans hg
 have hcp2 := fun ty dLen dCap sLen sCap (hd : Nat.min sLen dLen = xs.length - i) => copyAt W2.drew w.heap.size (xs.take i ++ [x]) (xs.drop i) _ hg2 ty ((i + 1) * 4) dLen dCap ⟨g, i * 4, none⟩ sLen sCap (by rw [List.length_append, hlt]; rfl) (by rw [List.length_drop]; exact hd) (part_news hgo rfl i) (by rw [List.length_drop, List.length_drop, List.length_singleton]; omega)
 rw [List.length_drop, List.drop_drop] at hcp2
 obtain ⟨W3, hW3⟩ : ∃ W3, W3 = W2.drew.setRow w.heap.size (entCells (xs.take i ++ [x] ++ xs.drop i) ++ (midZ w i xs.length cap).drop ([x].length * 4 + (xs.length - i) * 4)).toArray := ⟨_, rfl⟩
 rw [<- hW3] at hcp2
 have fin : Hid (Below w.heap.size w W3 /\ W3.heap.size = w.heap.size + 1 /\ W3.heap[w.heap.size]? = some (.cells (entCells (xs.take i ++ x :: xs.drop i) ++ (midZ w i xs.length cap).drop (4 + (xs.length - i) * 4)).toArray 195 (0, 0))) := by
  refine ⟨?_, ?_, ?_⟩
  ·rw [hW3]; exact hB2.drew.trans ⟨rfl, rfl, rfl, by simp [World.setRow], fun k hk => setRow_other W2.drew _ k _ (by omega)⟩
  ·rw [hW3]; simpa [World.setRow] using hs2
  ·rw [hW3]
   have := setRow_heap W2.drew w.heap.size _ (entCells (xs.take i ++ [x] ++ xs.drop i) ++ (midZ w i xs.length cap).drop ([x].length * 4 + (xs.length - i) * 4)).toArray 195 _ hg2
   simpa using this
 clear hW3 hgo hg2 hs2 hB2 hW2 hv1 hg1 hs1 hB1 hW1 hg hv hmz
 generalize xs.length = n at *
 generalize grownCap w (n + 1) cap 195 = C at *
 have hb0 : (0 : Int) <= (i : Int) := by omega
 have hb1 : (i : Int) <= (n : Int) := by omega
 have hb2 : ((i : Int) == (n : Int)) = false := by simp; omega
 have hb3 : ¬ (cap = i) := by omega
 have hb4 : ¬ (C = i + 1) := by omega
 have hb8 : ¬ (C = i) := by omega
 have hw1 : IntKind.i64.wrap ((i : Int) + 1) = (i : Int) + 1 := by rw [IntKind.wrap_i64]; omega
 have hb5 : (0 : Int) <= (i : Int) + 1 := by omega
 have hb6 : (i : Int) + 1 <= (n : Int) + 1 := by omega
 have htn : ((i : Int) + 1).toNat = i + 1 := by omega
 have hb7 : (i : Int) <= (n : Int) + 1 := by omega
 have hap' := hide hap
 have hq1 := fun ty => hcp1 ty (n + 1 - i) (C - i) (by omega)
 have hq2 := fun ty => hcp2 ty (n - i) (C - (i + 1)) (n - i) (cap - i) (Nat.min_self _)
 clear hap hcp1 hcp2
 go_enter Tryz.func148, Tryz.ntmps148
 go_wp2_with (at_builtin; refine wpList_appendB rfl (.tmp 34) (.tmp 39) 184 3 rfl (.slice (some ⟨g, 0, none⟩) i cap) (.int .i64 ((n : Int) + 1 - (i : Int))) rfl rfl (.slice (some ⟨w.heap.size, 0, none⟩) (n + 1) C) W1 (hap'.out _) ?_)
 clear hq1
 go_region
 go_wp2
 go_ret
 exact ⟨rfl, fin.out⟩
end Go.Proofs.YtglbamalagacgaaGreat.R

namespace Go.Proofs.YtglbamalagacgaaGreat.R
open Go.RowKit
def RowTo (w w' : World) (v v' : Value) (xs : List Ent) : Prop :=
 RowAt w' v' xs /\ w.grownBy w' v.ownBlock /\ (v'.ownBlock = v.ownBlock ∨ ∃ g, v'.ownBlock = some g /\ w.heap.size <= g)
theorem growZ_length (w : World) (need old : Nat) : (growZ w need old).length = (grownCap w need old 195 - need) * 4 := zeroCells_length _
theorem insert_any (w : World) (v : Value) (xs : List Ent) (i vb : Nat) (x : Ent) (hrow : RowAt w v xs) (hv : OneAt w vb x) (hne : v.ownBlock ≠ some vb) (hi : i <= xs.length) (hn : xs.length <= 1000000) :
  Calls Tryz.prog 148 #[v, .int .i64 i, vA vb] w fun e w' => ∃ v', e = .returned v' /\ RowTo w w' v v' (xs.take i ++ x :: xs.drop i) := by
 have hvw := (Array.getElem?_eq_some_iff.1 (show w.heap[vb]? = _ from hv)).1
 have hM : (1000001 : Nat) <= maxLen := by unfold maxLen; omega
 rcases hrow with ⟨rfl, rfl⟩ | ⟨g, cap, sp, rfl, hg, hl, hnc, hcm⟩
 ·obtain rfl : i = 0 := by simpa using hi
  refine (insert_nil w vb x hv).mono ?_
  rintro e w' ⟨rfl, rfl⟩
  refine ⟨_, rfl, .inr ⟨w.heap.size, _, growZ w 1 0, rfl, heap_alloc_new w.drew _, ?_, grownCap_ge w 1 0 _, grownCap_le_maxLen w 1 0 _ (by omega)⟩, grownBy_below ((Below.refl _ w).drew.alloc (Nat.le_refl _) _) _, .inr ⟨_, rfl, Nat.le_refl _⟩⟩
  have := grownCap_ge w 1 0 195
  rw [List.length_append, growZ_length, entCells_length]
  simp
  omega
 ·have hgw := (Array.getElem?_eq_some_iff.1 hg).1
  have hlx := entCells_length xs
  have hl' := hl
  rw [List.length_append, hlx] at hl'
  by_cases hend : i = xs.length
  ·subst hend
   rw [List.take_length, List.drop_length]
   by_cases hroom : xs.length + 1 <= cap
   ·refine (insert_end w g xs.length cap vb hn hnc hcm _ _ (ins_run_room w g xs.length cap vb xs sp x hv rfl hg hl hroom)).mono ?_
    rintro e w' ⟨rfl, rfl⟩
    refine ⟨_, rfl, .inr ⟨g, cap, sp.drop 4, by simp, setRow_heap w g _ _ _ _ hg, ?_, by simpa using hroom, hcm⟩, grownBy_setRow' g _, .inl rfl⟩
    rw [List.length_append, entCells_length, List.length_drop, List.length_append, List.length_singleton]
    omega
   ·refine (insert_end w g xs.length cap vb hn hnc hcm _ _ (ins_run_grow w g xs.length cap vb xs sp x hv rfl hn hg (by omega))).mono ?_
    rintro e w' ⟨rfl, rfl⟩
    have hge := grownCap_ge w (xs.length + 1) cap 195
    refine ⟨_, rfl, .inr ⟨w.heap.size, grownCap w (xs.length + 1) cap 195, growZ w (xs.length + 1) cap, by simp, heap_alloc_new w.drew _, ?_, by simpa using hge, grownCap_le_maxLen w _ _ _ (by omega)⟩, grownBy_below ((Below.refl _ w).drew.alloc (Nat.le_refl _) _) _, .inr ⟨_, rfl, Nat.le_refl _⟩⟩
    rw [List.length_append, growZ_length, entCells_length, List.length_append, List.length_singleton]
    omega
  ·have hi' : i < xs.length := by omega
   have hlen : (xs.take i ++ x :: xs.drop i).length = xs.length + 1 := by simp; omega
   by_cases hroom : xs.length + 1 <= cap
   ·refine (insert_mid_room w g i cap vb xs sp x hv (fun e => hne (by rw [e]; rfl)) hi' hn hcm hg hl hroom).mono ?_
    rintro e w' ⟨rfl, rfl⟩
    refine ⟨_, rfl, .inr ⟨g, cap, sp.drop 4, by rw [hlen], setRow_heap w.drew g _ _ _ _ hg, ?_, by rw [hlen]; exact hroom, hcm⟩, grownBy_setRow g _, .inl rfl⟩
    rw [List.length_append, entCells_length, List.length_drop, hlen]
    omega
   ·refine (insert_mid_grow w g i cap vb xs sp x hv hi' hn hnc hg (by omega)).mono ?_
    rintro e w' ⟨rfl, hB, hs, hh⟩
    have hge := grownCap_ge w (xs.length + 1) cap 195
    have hmz := midZ_length w i xs.length cap (by omega)
    refine ⟨_, rfl, .inr ⟨w.heap.size, _, _, by rw [hlen], hh, ?_, by rw [hlen]; exact hge, grownCap_le_maxLen w _ _ _ (by omega)⟩, grownBy_below hB _, .inr ⟨_, rfl, Nat.le_refl _⟩⟩
    rw [List.length_append, entCells_length, List.length_drop, hlen]
    omega
theorem del_append (w : World) (g i cap : Nat) (xs : List Ent) (sp : List Value) (hi : i < xs.length) (hg : w.heap[g]? = some (.cells (entCells xs ++ sp).toArray 195 (0, 0))) (hl : (entCells xs ++ sp).length = cap * 4) (_hnc : xs.length <= cap)
  (ad : Addr) (had : i + 1 < xs.length -> ad = ⟨g, (i + 1) * 4, none⟩) (ty : TypeId) (sc : Nat) :
  (Builtin.append_ #[184, 184] ty #[.slice (some ⟨g, 0, none⟩) i cap, .slice (some ad) (xs.length - (i + 1)) sc]).run Tryz.prog w =
   .ok (.slice (some ⟨g, 0, none⟩) (xs.length - 1) cap) (w.setRow g (entCells (xs.take i ++ xs.drop (i + 1)) ++ (entCells (xs.drop (xs.length - 1)) ++ sp)).toArray) := by
 obtain ⟨inf, hinf, hz, hs, hb⟩ := entInfo
 have hlx := entCells_length xs
 rw [List.length_append, hlx] at hl
 have hd : (entCells (xs.drop (i + 1))).length = (xs.length - (i + 1)) * 4 := by rw [entCells_length, List.length_drop]
 have := run_append_room (P := Tryz.prog) w 184 ty 195 inf Tryz.underlying184 hinf g i cap _ hg ad (xs.length - (i + 1)) sc (entCells (xs.drop (i + 1))) (by rw [hd, hs])
  (fun j v hj => by
   have hj1 : j < (entCells (xs.drop (i + 1))).length := (List.getElem?_eq_some_iff.1 hj).1
   rw [had (by omega)]
   exact part_news hg rfl (i + 1) j v hj)
  (entCells_one _) (by omega) (by rw [hs, hd, List.size_toArray, List.length_append, hlx]; omega)
 rw [this, hs, show i + (xs.length - (i + 1)) = xs.length - 1 by omega]
 have e : List.take (i * 4) (entCells xs ++ sp).toArray.toList ++ entCells (xs.drop (i + 1)) ++ List.drop (i * 4 + (entCells (xs.drop (i + 1))).length) (entCells xs ++ sp).toArray.toList = entCells (xs.take i ++ xs.drop (i + 1)) ++ (entCells (xs.drop (xs.length - 1)) ++ sp) := by
  show List.take (i * 4) (entCells xs ++ sp) ++ entCells (xs.drop (i + 1)) ++ List.drop (i * 4 + (entCells (xs.drop (i + 1))).length) (entCells xs ++ sp) = _
  rw [List.take_append_of_le_length (by omega), entCells_take, hd, show i * 4 + (xs.length - (i + 1)) * 4 = (xs.length - 1) * 4 by omega, List.drop_append_of_le_length (by omega), entCells_drop, entCells_append]
 rw [e]
theorem zero_one : (Builtin.zeroCells (rentV 0 0 0 0).cells 1).toList = Ent.z.cells := by simp [Builtin.zeroCells, Value.cells, Ent.cells, Ent.z, List.range_succ]
theorem del_clear (w : World) (g n : Nat) (ys : List Ent) (y : List Value) (sp : List Value) (hg : w.heap[g]? = some (.cells (entCells ys ++ (y ++ sp)).toArray 195 (0, 0))) (hy : y.length = 4) (hn : n = ys.length) (ty : TypeId) (c : Nat) :
  (Builtin.clear_ #[184] ty #[.slice (some ⟨g, n * 4, none⟩) 1 c]).run Tryz.prog w = .ok (.tuple #[]) (w.setRow g (entCells ys ++ (Ent.z.cells ++ sp)).toArray) := by
 subst hn
 have hlx := entCells_length ys
 have hz3 : Ent.z.cells.length = 4 := rfl
 have := run_clearS (P := Tryz.prog) (w := w) 184 ty 195 (rentV 0 0 0 0) Tryz.underlying184 (fun w => by obtain ⟨i, hi, hz, _⟩ := entInfo; simp [zeroValue, typeInfo, hi, hz]) g (ys.length * 4) 1 c (by omega) _ 195 Ent.z.cells hg zero_one
  (by rw [List.size_toArray, List.length_append, List.length_append, hlx, hy, hz3]; omega) (by intro v hv; simp [Ent.cells] at hv; rcases hv with rfl | rfl | rfl | rfl <;> rfl)
 rw [this]
 have e : List.take (ys.length * 4) (entCells ys ++ (y ++ sp)).toArray.toList ++ Ent.z.cells ++ List.drop (ys.length * 4 + Ent.z.cells.length) (entCells ys ++ (y ++ sp)).toArray.toList = entCells ys ++ (Ent.z.cells ++ sp) := by
  show List.take (ys.length * 4) (entCells ys ++ (y ++ sp)) ++ Ent.z.cells ++ List.drop (ys.length * 4 + Ent.z.cells.length) (entCells ys ++ (y ++ sp)) = _
  rw [List.take_left' hlx, <- hlx, drop_past, hz3, <- hy, List.drop_left, List.append_assoc]
 rw [e]
set_option maxHeartbeats 400000 in
set_option maxRecDepth 100000 in
theorem delete_row (w : World) (g i cap : Nat) (xs : List Ent) (sp : List Value) (hi : i < xs.length) (hn : xs.length <= 1000000) (hnc : xs.length <= cap) (hcm : cap <= maxLen)
  (hg : w.heap[g]? = some (.cells (entCells xs ++ sp).toArray 195 (0, 0))) (hl : (entCells xs ++ sp).length = cap * 4) :
  Calls Tryz.prog 147 #[.slice (some ⟨g, 0, none⟩) xs.length cap, .int .i64 i, .int .i64 ((i : Int) + 1)] w fun e w1 =>
   e = .returned (.slice (some ⟨g, 0, none⟩) (xs.length - 1) cap) /\ w1 = w.drew.setRow g (entCells (xs.take i ++ xs.drop (i + 1)) ++ (Ent.z.cells ++ sp)).toArray := by
 have hap := fun ad had ty sc => del_append w.drew g i cap xs sp hi hg hl hnc ad had ty sc
 obtain ⟨W1, hW1⟩ : ∃ W1, W1 = w.drew.setRow g (entCells (xs.take i ++ xs.drop (i + 1)) ++ (entCells (xs.drop (xs.length - 1)) ++ sp)).toArray := ⟨_, rfl⟩
 rw [<- hW1] at hap
 have hg1 : W1.heap[g]? = some (.cells (entCells (xs.take i ++ xs.drop (i + 1)) ++ (entCells (xs.drop (xs.length - 1)) ++ sp)).toArray 195 (0, 0)) := by rw [hW1]; exact setRow_heap w.drew g _ _ _ _ hg
 have hcl := fun ty c => del_clear W1 g (xs.length - 1) (xs.take i ++ xs.drop (i + 1)) _ sp hg1 (by rw [entCells_length, List.length_drop]; omega) (by simp; omega) ty c
 have hfin : Hid (W1.setRow g (entCells (xs.take i ++ xs.drop (i + 1)) ++ (Ent.z.cells ++ sp)).toArray = w.drew.setRow g (entCells (xs.take i ++ xs.drop (i + 1)) ++ (Ent.z.cells ++ sp)).toArray) := by unfold Hid; rw [hW1, setRow_setRow]
 unfold maxLen at hcm
 generalize hN : xs.length = n at *
 have hb0 : (0 : Int) <= (i : Int) := by omega
 have hb1 : (i : Int) <= (cap : Int) := by omega
 have hb5 : (0 : Int) <= (i : Int) + 1 := by omega
 have hb6 : (i : Int) + 1 <= (n : Int) := by omega
 have htn : ((i : Int) + 1).toNat = i + 1 := by omega
 have hb7 : ((i : Int) == (i : Int) + 1) = false := by simp; omega
 have hcl' := fun ty => hcl ty (cap - (n - 1))
 have hb8 : ¬ (cap = n - 1) := by omega
 have hb9 : n - (n - 1) = 1 := by omega
 have hb10 : (n : Int) - 1 <= (n : Int) := by omega
 by_cases hcj : cap = i + 1
 ·obtain rfl : n = i + 1 := by omega
  subst hcj
  have hd : xs.drop (i + 1) = [] := List.drop_eq_nil_iff.2 (by omega)
  have hx : entCells xs ++ sp = entCells (xs.take i) ++ (entCells (xs.drop i) ++ sp) := by rw [<- List.append_assoc, <- entCells_append, List.take_append_drop]
  rw [hx] at hg
  have hc2 := fun ty => del_clear w.drew g i (xs.take i) _ sp hg (by rw [entCells_length, List.length_drop]; omega) (by rw [List.length_take]; omega) ty 1
  rw [hd, List.append_nil]
  have hb11 : (i : Int) <= (i : Int) + 1 := by omega
  clear hN hW1 hg1 hg hl hap hcl hcl' hb1 hb6 hb8 hb9 hb10 hd hx hfin
  go_enter Tryz.func147, Tryz.ntmps147
  go_wp2
  go_region
  go_wp2
  go_ret
  exact ⟨rfl, rfl⟩
 ·have hq := hide fun ty sc => hap ⟨g, (i + 1) * 4, none⟩ (fun _ => rfl) ty sc
  clear hN hW1 hg1 hg hl hap hcl
  go_enter Tryz.func147, Tryz.ntmps147
  go_wp2
  go_region_law (refine step_appendB rfl (.tmp 22) (.tmp 25) 184 184 rfl (.slice (some ⟨g, 0, none⟩) i cap) (.slice (some ⟨g, (i + 1) * 4, none⟩) (n - (i + 1)) (cap - (i + 1))) (by simp [Act.eval, Act.put]) (by simp [Act.eval, Act.put]) (.slice (some ⟨g, 0, none⟩) (n - 1) cap) W1 (hq.out _ _) ?_)
  go_wp2
  go_ret
  exact ⟨rfl, hfin.out⟩
theorem delete_any (w : World) (v : Value) (xs : List Ent) (i : Nat) (hrow : RowAt w v xs) (hi : i < xs.length) (hn : xs.length <= 1000000) :
  Calls Tryz.prog 147 #[v, .int .i64 i, .int .i64 ((i : Int) + 1)] w fun e w' => ∃ v', e = .returned v' /\ RowTo w w' v v' (xs.take i ++ xs.drop (i + 1)) := by
 rcases hrow with ⟨rfl, rfl⟩ | ⟨g, cap, sp, rfl, hg, hl, hnc, hcm⟩
 ·simp at hi
 ·have hlx := entCells_length xs
  have hl' := hl
  rw [List.length_append, hlx] at hl'
  have hlen : (xs.take i ++ xs.drop (i + 1)).length = xs.length - 1 := by simp; omega
  refine (delete_row w g i cap xs sp hi hn hnc hcm hg hl).mono ?_
  rintro e w' ⟨rfl, rfl⟩
  refine ⟨_, rfl, .inr ⟨g, cap, Ent.z.cells ++ sp, by rw [hlen], setRow_heap w.drew g _ _ _ _ hg, ?_, by rw [hlen]; omega, hcm⟩, grownBy_setRow g _, .inl rfl⟩
  rw [List.length_append, entCells_length, hlen, List.length_append, show Ent.z.cells.length = 4 from rfl]
  omega
end Go.Proofs.YtglbamalagacgaaGreat.R

import Derived.Test.YtkihifodifkieaaSto
namespace Go.Proofs.Ytkihifodifkieaa
open Go.RowKit

-- Of what lay in memory only the blocks of F have turned.
structure Only (F : List Nat) (w w' : World) : Prop where
  os : w'.os = w.os
  tape : w'.tape = w.tape
  output : w'.output = w.output
  size : w.heap.size ≤ w'.heap.size
  block : ∀ k, k < w.heap.size → k ∉ F → w'.heap[k]? = w.heap[k]?
theorem Only.of_below {w w' : World} (F : List Nat) (h : Below w.heap.size w w') : Only F w w' := ⟨h.os, h.tape, h.output, h.size, fun k hk _ => h.block k hk⟩
theorem Only.refl (F : List Nat) (w : World) : Only F w w := ⟨rfl, rfl, rfl, Nat.le_refl _, fun _ _ _ => rfl⟩
theorem Only.below {w w' : World} (h : Only [] w w') : Below w.heap.size w w' := ⟨h.os, h.tape, h.output, h.size, fun k hk => h.block k hk (by simp)⟩
theorem Only.trans {F G : List Nat} {a b c : World} (h : Only F a b) (k : Only G b c) (hG : ∀ x ∈ G, x ∈ F ∨ a.heap.size ≤ x) : Only F a c :=
  ⟨k.os.trans h.os, k.tape.trans h.tape, k.output.trans h.output, Nat.le_trans h.size k.size, fun x hx hn => (k.block x (by have := h.size; omega) (fun hg => by rcases hG x hg with h1 | h1; exact hn h1; omega)).trans (h.block x hx hn)⟩
theorem Only.mono {F G : List Nat} {a b : World} (h : Only F a b) (hG : ∀ x ∈ F, x < a.heap.size → x ∈ G) : Only G a b :=
  ⟨h.os, h.tape, h.output, h.size, fun x hx hn => h.block x hx (fun hf => hn (hG x hf hx))⟩
theorem Only.cell {F : List Nat} {w w' : World} (h : Only F w w') {b o : Nat} (hb : b < w.heap.size) (hn : b ∉ F) : w'.cell? ⟨b, o, none⟩ = w.cell? ⟨b, o, none⟩ := World.cell?_of_block (w := w) (a := ⟨b, o, none⟩) (h.block b hb hn)
theorem Only.frozen {F : List Nat} {w w' : World} (h : Only F w w') {b o : Nat} (hb : b < w.heap.size) (hn : b ∉ F) : w'.frozen? ⟨b, o, none⟩ = w.frozen? ⟨b, o, none⟩ := World.frozen?_of_block (w := w) (a := ⟨b, o, none⟩) (h.block b hb hn)

theorem grownBy_only {w w' : World} {row : Option Nat} (h : w.grownBy w' row) : Only row.toList w w' :=
  ⟨h.os, h.tape, h.output, h.size, fun k hk hn => h.block k hk (fun e => hn (by rw [← e]; simp))⟩

def isS (o : Option Int) : Bool := match o with
  | some _ => true
  | none => false
def orZ (o : Option Int) : Int := match o with
  | some n => n
  | none => 0

set_option maxHeartbeats 400000 in
theorem stoGet_any (st : Nat) (v : Value) (xs : List Ent) (b m : Int) (w : World) (hS : StoreAt w st v xs) :
    Calls Try.prog 56 #[ptrV st, pfxV b m] w fun r w' => Below w.heap.size w w' ∧ r = .returned (.tuple #[.int .i64 (orZ (getE xs b m)), .bool (isS (getE xs b m))]) := by
  have hB1 : Below w.heap.size w (w.alloc (Obj.cells #[.int .i64 b, .int .i64 m] 54)) := (Below.refl _ w).alloc (Nat.le_refl _) _
  go_enter Try.func56, Try.ntmps56
  go_wp2_with fail
  refine (find_any st v xs b m _ (hS.later hB1)).mono ?_
  rintro r w1 ⟨hB, i, hp, rfl⟩
  have hg := place_get hS.2.2.2.1 hp
  have hB2 := hB1.trans (hB.mono (by simp))
  have hS1 := hS.later hB2
  have c1 := hS1.c1
  cases hf : FoundAt xs b m i with
  | false =>
    rw [hf] at hg
    simp only [Bool.false_eq_true, if_false] at hg
    have HG := hide hg
    clear hg hf hp c1 hS1
    go_wp2
    go_ret2
    exact ⟨hB2, by rw [HG.out]; rfl⟩
  | true =>
    rw [hf] at hg
    simp only [if_true] at hg
    have HG := hide hg
    have hil : i < xs.length := by
      unfold FoundAt at hf
      rcases Nat.lt_or_ge i xs.length with h | h
      · exact h
      · rw [List.getElem?_eq_none h] at hf; cases hf
    rcases hS1.2.1 with ⟨rfl, rfl⟩ | ⟨g, cap, sp, rfl, hgg, hl, hnc, hcm⟩
    · simp at hil
    · have hx : EntsAt w1 g xs := RowAt.ents (cap := cap) (.inr ⟨g, cap, sp, rfl, hgg, hl, hnc, hcm⟩)
      obtain ⟨x0, x1, x2⟩ := hx i hil
      have i0 : (0 : Int) ≤ (i : Int) := by omega
      have i1 : (i : Int) < (xs.length : Int) := by omega
      clear hg hf hp hS1 hx hgg hl hS hB
      generalize xs[i]?.getD Ent.z = y at *
      go_wp2
      go_ret2
      exact ⟨hB2, by rw [HG.out]; rfl⟩

set_option maxHeartbeats 400000 in
theorem stoLen_any (st : Nat) (v : Value) (xs : List Ent) (w : World) (hS : StoreAt w st v xs) :
    Calls Try.prog 91 #[ptrV st] w fun r w' => w' = w ∧ r = .returned (.int .i64 xs.length) := by
  have c1 := hS.c1
  rcases hS.2.1 with ⟨rfl, rfl⟩ | ⟨g, cap, sp, rfl, hgg, hl, hnc, hcm⟩
  · clear hS
    go_enter Try.func91, Try.ntmps91
    go_wp2
    go_ret
    exact ⟨rfl, rfl⟩
  · clear hS hgg hl
    go_enter Try.func91, Try.ntmps91
    go_wp2
    go_ret
    exact ⟨rfl, rfl⟩

theorem found_lt {xs : List Ent} {b m : Int} {i : Nat} (hf : FoundAt xs b m i = true) : i < xs.length := by
  unfold FoundAt at hf
  rcases Nat.lt_or_ge i xs.length with h | h
  · exact h
  · rw [List.getElem?_eq_none h] at hf; cases hf

theorem found_key {xs : List Ent} {b m : Int} {i : Nat} (hf : FoundAt xs b m i = true) : (xs[i]?.getD Ent.z).a = b ∧ (xs[i]?.getD Ent.z).l = m := by
  have h := found_lt hf
  unfold FoundAt at hf
  rw [List.getElem?_eq_getElem h] at hf ⊢
  simpa using hf

theorem entCells_set (xs : List Ent) (n : Int) : ∀ (i : Nat), i < xs.length → (entCells xs).set (i * 3 + 2) (.int .i64 n) = entCells (xs.take i ++ ⟨(xs[i]?.getD Ent.z).a, (xs[i]?.getD Ent.z).l, n⟩ :: xs.drop (i + 1)) := by
  induction xs with
  | nil => intro i h; simp at h
  | cons x xs ih =>
    intro i h
    cases i with
    | zero => simp [entCells, Ent.cells]
    | succ i =>
      have := ih i (by simpa using h)
      rw [entCells_cons, show (i + 1) * 3 + 2 = (i * 3 + 2) + 1 + 1 + 1 by omega]
      simp only [Ent.cells, List.cons_append, List.nil_append, List.set_cons_succ, this]
      simp [entCells, Ent.cells]

-- the blocks of a store
def StoreF (w : World) (st : Nat) (xs : List Ent) (F : List Nat) : Prop := ∃ v, StoreAt w st v xs ∧ F = st :: v.ownBlock.toList
theorem StoreF.lt {w : World} {st : Nat} {xs : List Ent} {F : List Nat} (h : StoreF w st xs F) : ∀ k ∈ F, k < w.heap.size := by
  obtain ⟨v, hS, rfl⟩ := h
  intro k hk
  rcases List.mem_cons.1 hk with rfl | hk
  · exact hS.lt
  · exact hS.2.1.lt k (by simpa using hk)
theorem StoreF.kept {w w' : World} {st : Nat} {xs : List Ent} {F : List Nat} (h : StoreF w st xs F) (hk : ∀ k ∈ F, w'.heap[k]? = w.heap[k]?) : StoreF w' st xs F := by
  obtain ⟨v, hS, rfl⟩ := h
  exact ⟨v, ⟨(hk st (by simp)).trans hS.1, hS.2.1.kept fun g hg => hk g (by simp [hg]), hS.2.2⟩, rfl⟩

set_option maxHeartbeats 400000 in
theorem stoPut_old (st : Nat) (v : Value) (xs : List Ent) (b m n : Int) (w : World) (hS : StoreAt w st v xs) (hg : isS (getE xs b m) = true) (hlim : xs.length < 1000000) :
    Calls Try.prog 92 #[ptrV st, pfxV b m, .int .i64 n] w fun r w' => (∃ v', StoreAt w' st v' (putE xs b m n) ∧ v'.ownBlock = v.ownBlock) ∧ Only (st :: v.ownBlock.toList) w w' ∧ r = .returned (.tuple #[.int .i64 (orZ (getE xs b m)), .bool true]) := by
  have hB1 : Below w.heap.size w (w.alloc (Obj.cells #[.int .i64 b, .int .i64 m] 54)) := (Below.refl _ w).alloc (Nat.le_refl _) _
  go_enter Try.func92, Try.ntmps92
  go_wp2_with fail
  refine (find_any st v xs b m _ (hS.later hB1)).mono ?_
  rintro r w1 ⟨hB, i, hp, rfl⟩
  have hge := place_get hS.2.2.2.1 hp
  have hput := place_put (n := n) hS.2.2.2.1 hp
  have hB2 := hB1.trans (hB.mono (by simp))
  have hS1 := hS.later hB2
  cases hf : FoundAt xs b m i with
  | false => rw [hge, hf] at hg; cases hg
  | true =>
    rw [hf] at hge hput
    simp only [if_true] at hge hput
    have hil := found_lt hf
    obtain ⟨ka, kl⟩ := found_key hf
    have hset := entCells_set xs n i hil
    rw [ka, kl, ← hput] at hset
    rcases hS1.2.1 with ⟨rfl, rfl⟩ | ⟨g, cap, sp, rfl, hgg, hl, hnc, hcm⟩
    · simp at hil
    · have hx : EntsAt w1 g xs := RowAt.ents (cap := cap) (.inr ⟨g, cap, sp, rfl, hgg, hl, hnc, hcm⟩)
      obtain ⟨x0, x1, x2⟩ := hx i hil
      have c1 := hS1.c1
      have fg : ∀ o, w1.frozen? ⟨g, o, none⟩ = false := fun o => by simp [World.frozen?, hgg]
      have i0 : (0 : Int) ≤ (i : Int) := by omega
      have i1 : (i : Int) < (xs.length : Int) := by omega
      have hlp : (putE xs b m n).length = xs.length := by rw [hput]; simp; omega
      have hne : g ≠ st := fun e => hS1.2.2.1 (by rw [e]; rfl)
      have fin : Hid ((∃ v', StoreAt (w1.setCell ⟨g, i * 3 + 2, none⟩ (.int .i64 n)) st v' (putE xs b m n) ∧ v'.ownBlock = some g) ∧ Only (st :: (some g).toList) w (w1.setCell ⟨g, i * 3 + 2, none⟩ (.int .i64 n))) := by
        have e1 := setCell_eq_setRow w1 g (i * 3 + 2) _ 124 (0, 0) (.int .i64 n) hgg
        have e2 : (entCells xs ++ sp).toArray.setIfInBounds (i * 3 + 2) (.int .i64 n) = (entCells (putE xs b m n) ++ sp).toArray := by
          apply Array.ext'
          have hlx := entCells_length xs
          rw [Array.toList_setIfInBounds]
          show (entCells xs ++ sp).set (i * 3 + 2) (.int .i64 n) = entCells (putE xs b m n) ++ sp
          rw [List.set_append_left _ _ (by omega), hset]
        rw [e1, e2]
        refine ⟨⟨.slice (some ⟨g, 0, none⟩) xs.length cap, ⟨(setRow_other w1 g st _ (fun e => hne e.symm)).trans hS1.1, .inr ⟨g, cap, sp, by rw [hlp], setRow_heap w1 g _ _ _ _ hgg, ?_, by rw [hlp]; exact hnc, hcm⟩, hS1.2.2.1, putE_sorted hS1.2.2.2.1, by rw [hlp]; exact hS1.2.2.2.2⟩, rfl⟩, ?_⟩
        · rw [List.length_append, entCells_length] at hl ⊢
          rw [hlp]; exact hl
        · exact (Only.of_below _ hB2).trans (grownBy_only (grownBy_setRow' g _)) (fun x hx => .inl (by simp at hx ⊢; exact .inr hx))
      have HG := hide hge
      clear hge hput hg hf hp hx hgg hl ka kl hset hlp hS hS1
      generalize xs[i]?.getD Ent.z = y at *
      go_wp2
      go_ret2
      exact ⟨fin.out.1, fin.out.2, by rw [HG.out]; rfl⟩

theorem RowAt.shape {w : World} {v : Value} {xs : List Ent} (h : RowAt w v xs) : ∃ a n c, v = .slice a n c := by
  rcases h with ⟨rfl, _⟩ | ⟨g, cap, sp, rfl, _⟩
  · exact ⟨_, _, _, rfl⟩
  · exact ⟨_, _, _, rfl⟩

theorem insert_new (st kb : Nat) (v : Value) (xs : List Ent) (b m n : Int) (i : Nat) (w1 : World) (hS : StoreAt w1 st v xs) (hi : i ≤ xs.length) (hkb : kb < w1.heap.size) (hkn : v.ownBlock ≠ some kb) :
    Calls Try.prog 95 #[v, .int .i64 i, .slice (some ⟨w1.heap.size, 0, none⟩) 1 1] (w1.alloc (Obj.cells #[.int .i64 b, .int .i64 m, .int .i64 n] 124)).drew fun e w' =>
      ∃ a' n' cap', e = .returned (.slice a' n' cap') ∧ RowAt w' (.slice a' n' cap') (xs.take i ++ ⟨b, m, n⟩ :: xs.drop i) ∧ Only v.ownBlock.toList w1 w' ∧ ((Value.slice a' n' cap').ownBlock = v.ownBlock ∨ ∃ g, (Value.slice a' n' cap').ownBlock = some g ∧ w1.heap.size ≤ g) ∧
        (∀ o, w'.cell? ⟨st, o, none⟩ = w1.cell? ⟨st, o, none⟩) ∧ (∀ o, w'.frozen? ⟨st, o, none⟩ = w1.frozen? ⟨st, o, none⟩) ∧ (∀ o, w'.cell? ⟨kb, o, none⟩ = w1.cell? ⟨kb, o, none⟩) ∧ (Value.slice a' n' cap').ownBlock ≠ some st := by
  have hB : Below w1.heap.size w1 (w1.alloc (Obj.cells #[.int .i64 b, .int .i64 m, .int .i64 n] 124)).drew := ((Below.refl _ w1).alloc (Nat.le_refl _) _).drew
  have hO1 : OneAt (w1.alloc (Obj.cells #[.int .i64 b, .int .i64 m, .int .i64 n] 124)).drew w1.heap.size ⟨b, m, n⟩ := heap_alloc_new w1 _
  have hlt := hS.lt
  refine (insert_any _ v xs i w1.heap.size ⟨b, m, n⟩ ((hS.later hB).2.1) hO1 (fun h => by have := hS.2.1.lt _ h; omega) hi hS.2.2.2.2).mono ?_
  rintro e w' ⟨v', rfl, hr, hg, hv⟩
  have hO : Only v.ownBlock.toList w1 w' := (Only.of_below _ hB).trans (grownBy_only hg) (fun x hx => .inl hx)
  have hns : st ∉ v.ownBlock.toList := by simpa using hS.2.2.1
  have hnk : kb ∉ v.ownBlock.toList := by simpa using hkn
  have hv' : v'.ownBlock = v.ownBlock ∨ ∃ g, v'.ownBlock = some g ∧ w1.heap.size ≤ g := by
    rcases hv with h | ⟨g, h1, h2⟩
    · exact .inl h
    · exact .inr ⟨g, h1, by have := hB.size; omega⟩
  obtain ⟨a', n', cap', rfl⟩ := hr.shape
  refine ⟨a', n', cap', rfl, hr, hO, hv', fun o => hO.cell hlt hns, fun o => hO.frozen hlt hns, fun o => hO.cell hkb hnk, fun h => ?_⟩
  rcases hv' with h1 | ⟨g, h1, h2⟩
  · exact hS.2.2.1 (h1 ▸ h)
  · rw [h1] at h; cases h; omega

theorem store_set {w1 w2 : World} {st n' cap' : Nat} {v : Value} {a' : Option Addr} {xs xs' : List Ent} (hS : StoreAt w1 st v xs) (hr : RowAt w2 (.slice a' n' cap') xs') (hO : Only v.ownBlock.toList w1 w2) (hvs : (Value.slice a' n' cap').ownBlock ≠ some st) (hs : Sorted xs') (hl : xs'.length ≤ 1000000) :
    StoreAt (w2.setCell ⟨st, 1, none⟩ (.slice a' n' cap')) st (.slice a' n' cap') xs' ∧ Only (st :: v.ownBlock.toList) w1 (w2.setCell ⟨st, 1, none⟩ (.slice a' n' cap')) := by
  have hns : st ∉ v.ownBlock.toList := by simpa using hS.2.2.1
  have h2 : w2.heap[st]? = some (.cells #[cmpV, v] 102 (0, 0)) := (hO.block st hS.lt hns).trans hS.1
  have e1 := setCell_eq_setRow w2 st 1 _ 102 (0, 0) (.slice a' n' cap') h2
  rw [e1]
  have e2 : (#[cmpV, v] : Array Value).setIfInBounds 1 (.slice a' n' cap') = #[cmpV, .slice a' n' cap'] := by simp
  rw [e2]
  refine ⟨⟨setRow_heap w2 st _ _ _ _ h2, hr.kept fun g hg => setRow_other w2 st g _ (fun e => hvs (by rw [hg, e])), hvs, hs, hl⟩, ?_⟩
  exact (hO.mono (G := st :: v.ownBlock.toList) (fun x hx _ => by simp; exact .inr (by simpa using hx))).trans (grownBy_only (grownBy_setRow' st _)) (fun x hx => .inl (by simp at hx; simp [hx]))

set_option maxHeartbeats 400000 in
theorem stoPut_new (st : Nat) (v : Value) (xs : List Ent) (b m n : Int) (w : World) (hS : StoreAt w st v xs) (hg : isS (getE xs b m) = false) (hlim : xs.length < 1000000) :
    Calls Try.prog 92 #[ptrV st, pfxV b m, .int .i64 n] w fun r w' => (∃ v', StoreAt w' st v' (putE xs b m n) ∧ (v'.ownBlock = v.ownBlock ∨ ∃ g, v'.ownBlock = some g ∧ w.heap.size ≤ g)) ∧ Only (st :: v.ownBlock.toList) w w' ∧ r = .returned (.tuple #[.int .i64 0, .bool false]) := by
  have hB1 : Below w.heap.size w (w.alloc (Obj.cells #[.int .i64 b, .int .i64 m] 54)) := (Below.refl _ w).alloc (Nat.le_refl _) _
  go_enter Try.func92, Try.ntmps92
  go_wp2_with fail
  refine (find_any st v xs b m _ (hS.later hB1)).mono ?_
  rintro r w1 ⟨hB, i, hp, rfl⟩
  have hge := place_get hS.2.2.2.1 hp
  have hput := place_put (n := n) hS.2.2.2.1 hp
  have hB2 := hB1.trans (hB.mono (by simp))
  have hS1 := hS.later hB2
  cases hf : FoundAt xs b m i with
  | true => rw [hge, hf] at hg; cases hg
  | false =>
    rw [hf] at hge hput
    simp only [Bool.false_eq_true, if_false] at hge hput
    have c1 := hS1.c1
    have f1 := hS1.fz 1
    have k0 : w1.cell? ⟨w.heap.size, 0, none⟩ = some (.int .i64 b) := (hB.cell (p := ⟨w.heap.size, 0, none⟩) (by simp)).trans (by simp [go_sem])
    have k1 : w1.cell? ⟨w.heap.size, 1, none⟩ = some (.int .i64 m) := (hB.cell (p := ⟨w.heap.size, 1, none⟩) (by simp)).trans (by simp [go_sem])
    have hst := hS1.lt
    have hwl : w.heap.size < w1.heap.size := by have := hB.size; simp at this; omega
    clear hge hf hg
    go_wp2
    go_region_with (first
        | (go_at_call 95; refine (insert_new st w.heap.size v xs b m n i w1 hS1 hp.1 hwl (fun h => by have := hS.2.1.lt _ h; omega)).mono ?_; rintro _ w2 ⟨a', n', cap', rfl, hr, hO, hv', hcs, hfs, hck, hvs⟩; have f2 := (hfs 1).trans f1))
    all_goals
      rw [← hput] at hr
      have hlp : (putE xs b m n).length ≤ 1000000 := by rw [hput]; simp; have := hp.1; omega
      obtain ⟨hs3, ho3⟩ := store_set hS1 hr hO hvs (putE_sorted hS1.2.2.2.1) hlp
      have fin : Hid ((∃ v', StoreAt (w2.setCell ⟨st, 1, none⟩ (.slice a' n' cap')) st v' (putE xs b m n) ∧ (v'.ownBlock = v.ownBlock ∨ ∃ g, v'.ownBlock = some g ∧ w.heap.size ≤ g)) ∧ Only (st :: v.ownBlock.toList) w (w2.setCell ⟨st, 1, none⟩ (.slice a' n' cap'))) :=
        ⟨⟨_, hs3, hv'.imp id fun ⟨g, h1, h2⟩ => ⟨g, h1, by omega⟩⟩, (Only.of_below _ hB2).trans ho3 (fun x hx => .inl hx)⟩
      clear hs3 ho3 hr hO hv' hvs f2 hput hp hS hS1 c1 f1 k0 k1
      go_wp2
      go_ret2
      exact ⟨fin.out.1, fin.out.2, rfl⟩

end Go.Proofs.Ytkihifodifkieaa

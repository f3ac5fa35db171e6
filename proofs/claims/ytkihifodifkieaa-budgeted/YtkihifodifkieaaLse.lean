import Derived.Test.YtkihifodifkieaaLsf
namespace Go.Proofs.Ytkihifodifkieaa
open Go.RowKit Go.Shelf

-- entries that are routes
def okE (x : Ent) : Prop := isPfx x.a x.l = true ∧ 1 ≤ x.n ∧ x.n ≤ 255
theorem isPfx_iff (a l : Int) : isPfx a l = true ↔ 0 ≤ l ∧ l ≤ 8 ∧ 0 ≤ a ∧ a < 256 ∧ a % wid l = 0 := by
  unfold isPfx; simp only [Bool.and_eq_true, decide_eq_true_eq]; omega
theorem sorted_len {hi : Int} : ∀ (xs : List Ent) (lo : Int), Sorted xs → (∀ x ∈ xs, 0 ≤ x.l ∧ x.l ≤ 8 ∧ lo ≤ 9 * x.a + x.l ∧ 9 * x.a + x.l < hi) → xs.length ≤ (hi - lo).toNat := by
  intro xs
  induction xs with
  | nil => intros; simp
  | cons x xs ih =>
    intro lo hs hx
    obtain ⟨hs1, hs2⟩ := sorted_tail hs
    have h1 := hx x (by simp)
    have := ih (9 * x.a + x.l + 1) hs1 fun y hy => by
      have h2 := hx y (by simp [hy])
      have h3 := hs2 y hy
      unfold klt at h3
      omega
    simp
    omega
theorem ok_len {xs : List Ent} (hs : Sorted xs) (hk : ∀ x ∈ xs, okE x) : xs.length ≤ 2304 := by
  have := sorted_len (hi := 2304) xs 0 hs fun x hx => by
    have := (isPfx_iff _ _).1 (hk x hx).1
    omega
  omega
theorem ok_put {xs : List Ent} {a l n : Int} (hk : ∀ x ∈ xs, okE x) (h : okE ⟨a, l, n⟩) : ∀ x ∈ putE xs a l n, okE x := fun x hx => by
  rcases putE_mem hx with rfl | hx
  · exact h
  · exact hk x hx
theorem ok_del {xs : List Ent} {a l : Int} (hk : ∀ x ∈ xs, okE x) : ∀ x ∈ delE xs a l, okE x := fun x hx => hk x (delE_mem hx)

-- new blocks alone join a footprint
def NewF (w : World) (F F' : List Nat) : Prop := ∀ k ∈ F', k ∈ F ∨ w.heap.size ≤ k
theorem NewF.refl (w : World) (F : List Nat) : NewF w F F := fun _ h => .inl h
theorem NewF.trans {w w' : World} {F F' F'' : List Nat} (h : NewF w F F') (k : NewF w' F' F'') (hs : w.heap.size ≤ w'.heap.size) : NewF w F F'' := fun x hx => by
  rcases k x hx with h1 | h1
  · exact h x h1
  · exact .inr (by omega)

theorem ListF.sorted {w : World} {lp : Nat} {xs : List Ent} {F : List Nat} (h : ListF w lp xs F) : Sorted xs := by
  obtain ⟨st, Fs, _, ⟨v, hS, _⟩, _⟩ := h
  exact hS.2.2.2.1
theorem ListF.c0 {w : World} {lp : Nat} {xs : List Ent} {F : List Nat} (h : ListF w lp xs F) : ∃ st Fs, w.cell? ⟨lp, 0, none⟩ = some (ptrV st) ∧ lp < w.heap.size ∧ StoreF w st xs Fs ∧ lp ∉ Fs ∧ F = lp :: Fs := by
  obtain ⟨st, Fs, h1, h2, h3, h4⟩ := h
  exact ⟨st, Fs, by simp [World.cell?, h1], (Array.getElem?_eq_some_iff.1 h1).1, h2, h3, h4⟩
-- the store has turned: the List has
theorem ListF.turned {w w' : World} {lp st : Nat} {ys : List Ent} {Fs Fs' : List Nat} (h : w.heap[lp]? = some (.cells #[ptrV st] 81 (0, 0))) (hn : lp ∉ Fs) (hS : StoreF w' st ys Fs') (hN : NewF w Fs Fs') (hO : Only Fs w w') :
    ListF w' lp ys (lp :: Fs') ∧ NewF w (lp :: Fs) (lp :: Fs') ∧ Only (lp :: Fs) w w' := by
  have hl := (Array.getElem?_eq_some_iff.1 h).1
  refine ⟨⟨st, Fs', (hO.block lp hl hn).trans h, hS, fun hk => ?_, rfl⟩, fun k hk => ?_, hO.mono fun x hx _ => by simp [hx]⟩
  · rcases hN lp hk with h1 | h1
    · exact hn h1
    · omega
  · rcases List.mem_cons.1 hk with rfl | hk
    · simp
    · rcases hN k hk with h1 | h1
      · simp [h1]
      · exact .inr h1

theorem StoreF.later {w w' : World} {st : Nat} {xs : List Ent} {F : List Nat} (h : StoreF w st xs F) (hB : Below w.heap.size w w') : StoreF w' st xs F := h.kept fun k hk => hB.block k (h.lt k hk)

set_option maxHeartbeats 400000 in
theorem lstLay_any (lp : Nat) (xs : List Ent) (F : List Nat) (a l n : Int) (w : World) (hL : ListF w lp xs F) (hk : ∀ x ∈ xs, okE x) :
    Calls Try.prog 89 #[ptrV lp, rteV a l n] w fun r w' => (∃ F', ListF w' lp (putE xs a l n) F' ∧ NewF w F F') ∧ Only F w w' ∧ r = .returned (.int .i64 (orZ (getE xs a l))) := by
  have hlen := ok_len hL.sorted hk
  obtain ⟨st, Fs, hlp, hSt, hnF, rfl⟩ := hL
  have llp := (Array.getElem?_eq_some_iff.1 hlp).1
  have c0 : w.cell? ⟨lp, 0, none⟩ = some (ptrV st) := by simp [World.cell?, hlp]
  have m1 : lp < w.heap.size + 1 := by omega
  have hwF : w.heap.size ∉ Fs := fun h => by have := hSt.lt _ h; omega
  go_enter Try.func89, Try.ntmps89
  go_wp2
  go_region_held3 (fun w' => w'.cell? ⟨lp, 0, none⟩ = some (ptrV st) ∧ w'.cell? ⟨w.heap.size, 0, none⟩ = some (.int .i64 a) ∧ w'.cell? ⟨w.heap.size, 1, none⟩ = some (.int .i64 l) ∧ w'.cell? ⟨w.heap.size, 2, none⟩ = some (.int .i64 n)) (go_keep)
    (first
      | (go_at_call 93; refine (of_any _ _ _ _).mono ?_; rintro _ w1 ⟨rfl, hb⟩; have hc := (bcell hb).1; (have hB1 : Below w.heap.size w w1 := ((Below.refl _ w).alloc (Nat.le_refl _) _).drew.trans (hb.mono (by simp))); (have hz1 : w.heap.size < w1.heap.size := by have := hb.size; simp at this; omega); have hS1 := hSt.later hB1)
      | (go_at_call 92; refine (put_F st xs Fs a l n _ hS1 (by omega)).mono ?_; rintro _ w2 ⟨hF2, hO, rfl⟩; (have hc1 : ∀ o, w2.cell? ⟨lp, o, none⟩ = w1.cell? ⟨lp, o, none⟩ := fun o => hO.cell (by omega) hnF); (have hc2 : ∀ o, w2.cell? ⟨w.heap.size, o, none⟩ = w1.cell? ⟨w.heap.size, o, none⟩ := fun o => hO.cell hz1 hwF)))
  obtain ⟨F', hF1, hF3⟩ := hF2
  have hO2 : Only Fs w w2 := (Only.of_below _ hB1).trans hO (fun x hx => .inl hx)
  obtain ⟨r1, r2, r3⟩ := ListF.turned hlp hnF hF1 (fun k hk => (hF3 k hk).imp id (fun h => by have := hB1.size; omega)) hO2
  have fin := hide (show (∃ F', ListF w2 lp (putE xs a l n) F' ∧ NewF w (lp :: Fs) F') ∧ Only (lp :: Fs) w w2 from ⟨⟨_, r1, r2⟩, r3⟩)
  clear r1 r2 r3 hO2 hF1 hF3 hO hc1 hc2 hS1 hB1 hc hb hk
  go_wp2
  go_ret
  exact ⟨fin.out.1, fin.out.2, rfl⟩

set_option maxHeartbeats 400000 in
theorem lstTake_any (lp : Nat) (xs : List Ent) (F : List Nat) (a l : Int) (w : World) (hL : ListF w lp xs F) :
    Calls Try.prog 90 #[ptrV lp, pfxV a l] w fun r w' => (∃ F', ListF w' lp (delE xs a l) F' ∧ NewF w F F') ∧ Only F w w' ∧ r = .returned (.int .i64 (orZ (getE xs a l))) := by
  obtain ⟨st, Fs, hlp, hSt, hnF, rfl⟩ := hL
  have llp := (Array.getElem?_eq_some_iff.1 hlp).1
  have c0 : w.cell? ⟨lp, 0, none⟩ = some (ptrV st) := by simp [World.cell?, hlp]
  have m1 : lp < w.heap.size + 1 := by omega
  have hwF : w.heap.size ∉ Fs := fun h => by have := hSt.lt _ h; omega
  have hB1 : Below w.heap.size w (w.alloc (Obj.cells #[.int .i64 a, .int .i64 l] 54)).drew := ((Below.refl _ w).alloc (Nat.le_refl _) _).drew
  have hS1 := hSt.later hB1
  go_enter Try.func90, Try.ntmps90
  go_wp2
  go_region_held3 (fun w' => w'.cell? ⟨lp, 0, none⟩ = some (ptrV st) ∧ w'.cell? ⟨w.heap.size, 0, none⟩ = some (.int .i64 a) ∧ w'.cell? ⟨w.heap.size, 1, none⟩ = some (.int .i64 l)) (go_keep)
    (first
      | (go_at_call 94; refine (remove_F st xs Fs a l _ hS1).mono ?_; rintro _ w2 ⟨hF2, hO, rfl⟩; (have hc1 : ∀ o, w2.cell? ⟨lp, o, none⟩ = (w.alloc (Obj.cells #[.int .i64 a, .int .i64 l] 54)).cell? ⟨lp, o, none⟩ := fun o => hO.cell (by simp; omega) hnF); (have hc2 : ∀ o, w2.cell? ⟨w.heap.size, o, none⟩ = (w.alloc (Obj.cells #[.int .i64 a, .int .i64 l] 54)).cell? ⟨w.heap.size, o, none⟩ := fun o => hO.cell (by simp) hwF)))
  obtain ⟨F', hF1, hF3⟩ := hF2
  have hO2 : Only Fs w w2 := (Only.of_below _ hB1).trans hO (fun x hx => .inl hx)
  obtain ⟨r1, r2, r3⟩ := ListF.turned hlp hnF hF1 (fun k hk => (hF3 k hk).imp id (fun h => by have := hB1.size; omega)) hO2
  have fin := hide (show (∃ F', ListF w2 lp (delE xs a l) F' ∧ NewF w (lp :: Fs) F') ∧ Only (lp :: Fs) w w2 from ⟨⟨_, r1, r2⟩, r3⟩)
  clear r1 r2 r3 hO2 hF1 hF3 hO hc1 hc2 hS1 hB1
  go_wp2
  go_ret
  exact ⟨fin.out.1, fin.out.2, rfl⟩

set_option maxHeartbeats 400000 in
theorem lstCells_any (lp : Nat) (xs : List Ent) (F : List Nat) (w : World) (hL : ListF w lp xs F) :
    Calls Try.prog 87 #[ptrV lp] w fun r w' => w' = w ∧ r = .returned (.int .i64 xs.length) := by
  obtain ⟨st, Fs, hlp, hSt, hnF, rfl⟩ := hL
  have c0 : w.cell? ⟨lp, 0, none⟩ = some (ptrV st) := by simp [World.cell?, hlp]
  go_enter Try.func87, Try.ntmps87
  go_wp2_with (go_at_call 91; refine (len_F st xs Fs _ hSt).mono ?_; rintro _ w2 ⟨rfl, rfl⟩)
  go_ret
  exact ⟨rfl, rfl⟩

set_option maxHeartbeats 400000 in
theorem newList_any (w : World) :
    Calls Try.prog 25 #[] w fun r w' => Below w.heap.size w w' ∧ ∃ lp F, ListF w' lp [] F ∧ (∀ k ∈ F, w.heap.size ≤ k) ∧ r = .returned (ptrV lp) := by
  go_enter Try.func25, Try.ntmps25
  go_wp2
  go_ret
  refine ⟨(by repeat (first | exact Below.refl _ _ | refine below_drewN ?_ _ | refine Below.drew ?_ | refine Below.trans ?_ (Below.mono (by assumption) (by first | omega | (simp; omega) | simp)) | refine Below.alloc ?_ (by first | omega | (simp; omega) | simp) _ | refine Below.setCell ?_ (by first | omega | (simp; omega) | simp) _)), w.heap.size + 1, [w.heap.size + 1, w.heap.size], ⟨w.heap.size, [w.heap.size], ?_, ⟨.slice none 0 0, ⟨?_, .inl ⟨rfl, rfl⟩, by simp [Value.ownBlock], List.Pairwise.nil, by simp⟩, rfl⟩, by simp, rfl⟩, by simp, rfl⟩
  · have := World.alloc_heap_new (w.alloc (Obj.cells #[cmpV, Value.slice none 0 0] 102)) (Obj.cells #[ptrV w.heap.size] 81)
    rwa [World.size_alloc] at this
  · exact (Below.heap_alloc _ _ _ (by simp)).trans (World.alloc_heap_new w _)

end Go.Proofs.Ytkihifodifkieaa

import Derived.Test.YtfioeangigicfaaLst
namespace Go.Proofs.Ytfioeangigicfaa
open Go.RowKit Go.Shelf

-- entries that are routes
def okE (x : Ent) : Prop := isPfx x.a x.l = true ∧ 1 ≤ x.n ∧ x.n ≤ 255
theorem isPfx_iff (a l : Int) : isPfx a l = true ↔ 0 ≤ l ∧ l ≤ 8 ∧ 0 ≤ a ∧ a < 256 ∧ a % wid l = 0 := by
  unfold isPfx; simp only [Bool.and_eq_true, decide_eq_true_eq]; omega
theorem sorted_len {hi : Int} : ∀ (xs : List Ent) (lo : Int), Sorted xs → (∀ x ∈ xs, 0 ≤ x.l ∧ x.l ≤ 8 ∧ lo ≤ 9 * x.a + x.l ∧ 9 * x.a + x.l < hi) → xs.length ≤ (hi - lo).toNat := by
  intro xs
  induction xs with
  | nil => intros; simp
  | cons x xs ih =>
    intro lo hs hx
    obtain ⟨hs1, hs2⟩ := sorted_tail hs
    have h1 := hx x (by simp)
    have := ih (9 * x.a + x.l + 1) hs1 fun y hy => by
      have h2 := hx y (by simp [hy])
      have h3 := hs2 y hy
      unfold klt at h3
      omega
    simp
    omega
theorem ok_len {xs : List Ent} (hs : Sorted xs) (hk : ∀ x ∈ xs, okE x) : xs.length ≤ 2304 := by
  have := sorted_len (hi := 2304) xs 0 hs fun x hx => by
    have := (isPfx_iff _ _).1 (hk x hx).1
    omega
  omega
theorem ok_put {xs : List Ent} {a l n : Int} (hk : ∀ x ∈ xs, okE x) (h : okE ⟨a, l, n⟩) : ∀ x ∈ putE xs a l n, okE x := fun x hx => by
  rcases putE_mem hx with rfl | hx
  · exact h
  · exact hk x hx
theorem ok_del {xs : List Ent} {a l : Int} (hk : ∀ x ∈ xs, okE x) : ∀ x ∈ delE xs a l, okE x := fun x hx => hk x (delE_mem hx)

-- new blocks alone join a footprint
def NewF (w : World) (F F' : List Nat) : Prop := ∀ k ∈ F', k ∈ F ∨ w.heap.size ≤ k
theorem NewF.refl (w : World) (F : List Nat) : NewF w F F := fun _ h => .inl h
theorem NewF.trans {w w' : World} {F F' F'' : List Nat} (h : NewF w F F') (k : NewF w' F' F'') (hs : w.heap.size ≤ w'.heap.size) : NewF w F F'' := fun x hx => by
  rcases k x hx with h1 | h1
  · exact h x h1
  · exact .inr (by omega)

theorem ListF.sorted {w : World} {lp : Nat} {xs : List Ent} {F : List Nat} (h : ListF w lp xs F) : Sorted xs := by
  obtain ⟨st, Fs, _, ⟨v, hS, _⟩, _⟩ := h
  exact hS.2.2.2.1
theorem ListF.c0 {w : World} {lp : Nat} {xs : List Ent} {F : List Nat} (h : ListF w lp xs F) : ∃ st Fs, w.cell? ⟨lp, 0, none⟩ = some (ptrV st) ∧ lp < w.heap.size ∧ StoreF w st xs Fs ∧ lp ∉ Fs ∧ F = lp :: Fs := by
  obtain ⟨st, Fs, h1, h2, h3, h4⟩ := h
  exact ⟨st, Fs, by simp [World.cell?, h1], (Array.getElem?_eq_some_iff.1 h1).1, h2, h3, h4⟩
-- the store has turned: the List has
theorem ListF.turned {w w' : World} {lp st : Nat} {ys : List Ent} {Fs Fs' : List Nat} (h : w.heap[lp]? = some (.cells #[ptrV st] 104 (0, 0))) (hn : lp ∉ Fs) (hS : StoreF w' st ys Fs') (hN : NewF w Fs Fs') (hO : Only Fs w w') :
    ListF w' lp ys (lp :: Fs') ∧ NewF w (lp :: Fs) (lp :: Fs') ∧ Only (lp :: Fs) w w' := by
  have hl := (Array.getElem?_eq_some_iff.1 h).1
  refine ⟨⟨st, Fs', (hO.block lp hl hn).trans h, hS, fun hk => ?_, rfl⟩, fun k hk => ?_, hO.mono fun x hx _ => by simp [hx]⟩
  · rcases hN lp hk with h1 | h1
    · exact hn h1
    · omega
  · rcases List.mem_cons.1 hk with rfl | hk
    · simp
    · rcases hN k hk with h1 | h1
      · simp [h1]
      · exact .inr h1

theorem StoreF.later {w w' : World} {st : Nat} {xs : List Ent} {F : List Nat} (h : StoreF w st xs F) (hB : Below w.heap.size w w') : StoreF w' st xs F := h.kept fun k hk => hB.block k (h.lt k hk)

set_option maxHeartbeats 400000 in
theorem lstLay_any (lp : Nat) (xs : List Ent) (F : List Nat) (a l n : Int) (w : World) (hL : ListF w lp xs F) (hk : ∀ x ∈ xs, okE x) :
    Calls Try.prog 81 #[ptrV lp, rteV a l n] w fun r w' => (∃ F', ListF w' lp (putE xs a l n) F' ∧ NewF w F F') ∧ Only F w w' ∧ r = .returned (.int .i64 (orZ (getE xs a l))) := by
  have hlen := ok_len hL.sorted hk
  obtain ⟨st, Fs, hlp, hSt, hnF, rfl⟩ := hL
  have llp := (Array.getElem?_eq_some_iff.1 hlp).1
  have c0 : w.cell? ⟨lp, 0, none⟩ = some (ptrV st) := by simp [World.cell?, hlp]
  have m1 : lp < w.heap.size + 1 := by omega
  have hwF : w.heap.size ∉ Fs := fun h => by have := hSt.lt _ h; omega
  go_enter Try.func81, Try.ntmps81
  go_wp2
  go_region_held3 (fun w' => w'.cell? ⟨lp, 0, none⟩ = some (ptrV st) ∧ w'.cell? ⟨w.heap.size, 0, none⟩ = some (.int .i64 a) ∧ w'.cell? ⟨w.heap.size, 1, none⟩ = some (.int .i64 l) ∧ w'.cell? ⟨w.heap.size, 2, none⟩ = some (.int .i64 n)) (go_keep)
    (first
      | (go_at_call 58; refine (of_any _ _ _ _).mono ?_; rintro _ w1 ⟨rfl, hb⟩; have hc := (bcell hb).1; (have hB1 : Below w.heap.size w w1 := ((Below.refl _ w).alloc (Nat.le_refl _) _).drew.trans (hb.mono (by simp))); (have hz1 : w.heap.size < w1.heap.size := by have := hb.size; simp at this; omega); have hS1 := hSt.later hB1)
      | (go_at_call 88; refine (put_F st xs Fs a l n _ hS1 (by omega)).mono ?_; rintro _ w2 ⟨hF2, hO, rfl⟩; (have hc1 : ∀ o, w2.cell? ⟨lp, o, none⟩ = w1.cell? ⟨lp, o, none⟩ := fun o => hO.cell (by omega) hnF); (have hc2 : ∀ o, w2.cell? ⟨w.heap.size, o, none⟩ = w1.cell? ⟨w.heap.size, o, none⟩ := fun o => hO.cell hz1 hwF)))
  obtain ⟨F', hF1, hF3⟩ := hF2
  have hO2 : Only Fs w w2 := (Only.of_below _ hB1).trans hO (fun x hx => .inl hx)
  obtain ⟨r1, r2, r3⟩ := ListF.turned hlp hnF hF1 (fun k hk => (hF3 k hk).imp id (fun h => by have := hB1.size; omega)) hO2
  have fin := hide (show (∃ F', ListF w2 lp (putE xs a l n) F' ∧ NewF w (lp :: Fs) F') ∧ Only (lp :: Fs) w w2 from ⟨⟨_, r1, r2⟩, r3⟩)
  clear r1 r2 r3 hO2 hF1 hF3 hO hc1 hc2 hS1 hB1 hc hb hk
  go_wp2
  go_ret
  exact ⟨fin.out.1, fin.out.2, rfl⟩

set_option maxHeartbeats 400000 in
theorem lstTake_any (lp : Nat) (xs : List Ent) (F : List Nat) (a l : Int) (w : World) (hL : ListF w lp xs F) :
    Calls Try.prog 82 #[ptrV lp, pfxV a l] w fun r w' => (∃ F', ListF w' lp (delE xs a l) F' ∧ NewF w F F') ∧ Only F w w' ∧ r = .returned (.int .i64 (orZ (getE xs a l))) := by
  obtain ⟨st, Fs, hlp, hSt, hnF, rfl⟩ := hL
  have llp := (Array.getElem?_eq_some_iff.1 hlp).1
  have c0 : w.cell? ⟨lp, 0, none⟩ = some (ptrV st) := by simp [World.cell?, hlp]
  have m1 : lp < w.heap.size + 1 := by omega
  have hwF : w.heap.size ∉ Fs := fun h => by have := hSt.lt _ h; omega
  have hB1 : Below w.heap.size w (w.alloc (Obj.cells #[.int .i64 a, .int .i64 l] 61)).drew := ((Below.refl _ w).alloc (Nat.le_refl _) _).drew
  have hS1 := hSt.later hB1
  go_enter Try.func82, Try.ntmps82
  go_wp2
  go_region_held3 (fun w' => w'.cell? ⟨lp, 0, none⟩ = some (ptrV st) ∧ w'.cell? ⟨w.heap.size, 0, none⟩ = some (.int .i64 a) ∧ w'.cell? ⟨w.heap.size, 1, none⟩ = some (.int .i64 l)) (go_keep)
    (first
      | (go_at_call 89; refine (remove_F st xs Fs a l _ hS1).mono ?_; rintro _ w2 ⟨hF2, hO, rfl⟩; (have hc1 : ∀ o, w2.cell? ⟨lp, o, none⟩ = (w.alloc (Obj.cells #[.int .i64 a, .int .i64 l] 61)).cell? ⟨lp, o, none⟩ := fun o => hO.cell (by simp; omega) hnF); (have hc2 : ∀ o, w2.cell? ⟨w.heap.size, o, none⟩ = (w.alloc (Obj.cells #[.int .i64 a, .int .i64 l] 61)).cell? ⟨w.heap.size, o, none⟩ := fun o => hO.cell (by simp) hwF)))
  obtain ⟨F', hF1, hF3⟩ := hF2
  have hO2 : Only Fs w w2 := (Only.of_below _ hB1).trans hO (fun x hx => .inl hx)
  obtain ⟨r1, r2, r3⟩ := ListF.turned hlp hnF hF1 (fun k hk => (hF3 k hk).imp id (fun h => by have := hB1.size; omega)) hO2
  have fin := hide (show (∃ F', ListF w2 lp (delE xs a l) F' ∧ NewF w (lp :: Fs) F') ∧ Only (lp :: Fs) w w2 from ⟨⟨_, r1, r2⟩, r3⟩)
  clear r1 r2 r3 hO2 hF1 hF3 hO hc1 hc2 hS1 hB1
  go_wp2
  go_ret
  exact ⟨fin.out.1, fin.out.2, rfl⟩

set_option maxHeartbeats 400000 in
theorem lstCells_any (lp : Nat) (xs : List Ent) (F : List Nat) (w : World) (hL : ListF w lp xs F) :
    Calls Try.prog 79 #[ptrV lp] w fun r w' => w' = w ∧ r = .returned (.int .i64 xs.length) := by
  obtain ⟨st, Fs, hlp, hSt, hnF, rfl⟩ := hL
  have c0 : w.cell? ⟨lp, 0, none⟩ = some (ptrV st) := by simp [World.cell?, hlp]
  go_enter Try.func79, Try.ntmps79
  go_wp2_with (go_at_call 85; refine (len_F st xs Fs _ hSt).mono ?_; rintro _ w2 ⟨rfl, rfl⟩)
  go_ret
  exact ⟨rfl, rfl⟩

set_option maxHeartbeats 400000 in
theorem newList_any (w : World) :
    Calls Try.prog 43 #[] w fun r w' => Below w.heap.size w w' ∧ ∃ lp F, ListF w' lp [] F ∧ (∀ k ∈ F, w.heap.size ≤ k) ∧ r = .returned (ptrV lp) := by
  go_enter Try.func43, Try.ntmps43
  go_wp2
  go_ret
  refine ⟨(by repeat (first | exact Below.refl _ _ | refine below_drewN ?_ _ | refine Below.drew ?_ | refine Below.trans ?_ (Below.mono (by assumption) (by first | omega | (simp; omega) | simp)) | refine Below.alloc ?_ (by first | omega | (simp; omega) | simp) _ | refine Below.setCell ?_ (by first | omega | (simp; omega) | simp) _)), w.heap.size + 1, [w.heap.size + 1, w.heap.size], ⟨w.heap.size, [w.heap.size], ?_, ⟨.slice none 0 0, ⟨?_, .inl ⟨rfl, rfl⟩, by simp [Value.ownBlock], List.Pairwise.nil, by simp⟩, rfl⟩, by simp, rfl⟩, by simp, rfl⟩
  · have := World.alloc_heap_new (w.alloc (Obj.cells #[cmpV, Value.slice none 0 0] 112)) (Obj.cells #[ptrV w.heap.size] 104)
    rwa [World.size_alloc] at this
  · exact (Below.heap_alloc _ _ _ (by simp)).trans (World.alloc_heap_new w _)

-- AN ENGINE: the value that the interface holds.
def EngF (w : World) (e : Value) (xs : List Ent) (F : List Nat) : Prop := ∃ lp, e = .iface 89 (ptrV lp) ∧ ListF w lp xs F ∧ ∀ x ∈ xs, okE x
theorem EngF.lt {w : World} {e : Value} {xs : List Ent} {F : List Nat} (h : EngF w e xs F) : ∀ k ∈ F, k < w.heap.size := by
  obtain ⟨lp, _, h, _⟩ := h; exact h.lt
theorem EngF.cells {w : World} {e : Value} {xs : List Ent} {F : List Nat} (h : EngF w e xs F) : ∀ k ∈ F, ∃ o, w.heap[k]? = some o ∧ o.isCells = true := by
  obtain ⟨lp, _, h, _⟩ := h; exact h.cells
theorem EngF.kept {w w' : World} {e : Value} {xs : List Ent} {F : List Nat} (h : EngF w e xs F) (hk : ∀ k ∈ F, w'.heap[k]? = w.heap[k]?) : EngF w' e xs F := by
  obtain ⟨lp, h1, h2, h3⟩ := h; exact ⟨lp, h1, h2.kept hk, h3⟩
theorem EngF.later {w w' : World} {e : Value} {xs : List Ent} {F : List Nat} (h : EngF w e xs F) (hB : Below w.heap.size w w') : EngF w' e xs F := h.kept fun k hk => hB.block k (h.lt k hk)
theorem EngF.sorted {w : World} {e : Value} {xs : List Ent} {F : List Nat} (h : EngF w e xs F) : Sorted xs := by
  obtain ⟨lp, _, h, _⟩ := h; exact h.sorted
theorem EngF.ok {w : World} {e : Value} {xs : List Ent} {F : List Nat} (h : EngF w e xs F) : ∀ x ∈ xs, okE x := by
  obtain ⟨lp, _, _, h⟩ := h; exact h

theorem m_take (a : Addr) (w : World) : (method 249 89 (.pointer (some a)) "Take").run Try.prog w = .ok (82, .pointer (some a)) w := by kernel_rfl
theorem m_lay (a : Addr) (w : World) : (method 249 89 (.pointer (some a)) "Lay").run Try.prog w = .ok (81, .pointer (some a)) w := by kernel_rfl
theorem m_cells (a : Addr) (w : World) : (method 249 89 (.pointer (some a)) "Cells").run Try.prog w = .ok (79, .pointer (some a)) w := by kernel_rfl
theorem m_from (a : Addr) (w : World) : (method 249 89 (.pointer (some a)) "From").run Try.prog w = .ok (80, .pointer (some a)) w := by kernel_rfl
theorem m_best (a : Addr) (w : World) : (method 249 89 (.pointer (some a)) "Best").run Try.prog w = .ok (78, .pointer (some a)) w := by kernel_rfl
theorem n_lay (a : Addr) (w : World) : (nilAhead 249 89 (.pointer (some a)) "Lay").run Try.prog w = .ok (some false) w := by kernel_rfl

-- what Set makes of the routes
def setE (xs : List Ent) (a l n : Int) : List Ent := if n = 0 then delE xs a l else putE xs a l n

set_option maxHeartbeats 400000 in
theorem set_take (e : Value) (xs : List Ent) (F : List Nat) (a l : Int) (w : World) (hE : EngF w e xs F) :
    Calls Try.prog 47 #[e, pfxV a l, .int .i64 0] w fun r w' => (∃ F', EngF w' e (delE xs a l) F' ∧ NewF w F F') ∧ Only F w w' ∧ r = .returned (.int .i64 (orZ (getE xs a l))) := by
  obtain ⟨lp, rfl, hL, hk⟩ := hE
  have mt := m_take
  have hB1 : Below w.heap.size w (w.alloc (Obj.cells #[.int .i64 a, .int .i64 l] 61)) := (Below.refl _ w).alloc (Nat.le_refl _) _
  go_enter Try.func47, Try.ntmps47
  go_wp2_with fail
  refine (lstTake_any lp xs F a l _ (hL.later hB1)).mono ?_
  rintro _ w2 ⟨⟨F', h1, h2⟩, hO, rfl⟩
  have fin := hide (show (∃ F', EngF w2 (.iface 89 (ptrV lp)) (delE xs a l) F' ∧ NewF w F F') ∧ Only F w w2 from
    ⟨⟨F', ⟨lp, rfl, h1, ok_del hk⟩, fun k hk => (h2 k hk).imp id (fun h => by have := hB1.size; omega)⟩, (Only.of_below _ hB1).trans hO (fun x hx => .inl hx)⟩)
  clear h1 h2 hO hB1 hk hL
  go_wp2
  go_ret
  exact ⟨fin.out.1, fin.out.2, rfl⟩

set_option maxHeartbeats 400000 in
theorem set_lay (e : Value) (xs : List Ent) (F : List Nat) (a l n : Int) (w : World) (hE : EngF w e xs F) (hn : okE ⟨a, l, n⟩) :
    Calls Try.prog 47 #[e, pfxV a l, .int .i64 n] w fun r w' => (∃ F', EngF w' e (putE xs a l n) F' ∧ NewF w F F') ∧ Only F w w' ∧ r = .returned (.int .i64 (orZ (getE xs a l))) := by
  obtain ⟨lp, rfl, hL, hk⟩ := hE
  have hk' := ok_put hk hn
  have hn0 : (n == 0) = false := by have h : 1 ≤ n := hn.2.1; simp; omega
  have ml := m_lay
  have nl := n_lay
  have hB1 : Below w.heap.size w (w.alloc (Obj.cells #[.int .i64 a, .int .i64 l] 61)).drew := ((Below.refl _ w).alloc (Nat.le_refl _) _).drew
  have hFl := hL.lt
  have hwF : w.heap.size ∉ F := fun h => by have := hFl _ h; omega
  go_enter Try.func47, Try.ntmps47
  go_wp2
  go_region_held3 (fun w' => w'.cell? ⟨w.heap.size, 0, none⟩ = some (.int .i64 a) ∧ w'.cell? ⟨w.heap.size, 1, none⟩ = some (.int .i64 l)) (go_keep)
    (first
      | (go_at_call 56; refine (route_any _ _ _ _).mono ?_; rintro _ w1 ⟨rfl, hb⟩; have hc := (bcell hb).1; (have hB2 : Below w.heap.size w w1 := hB1.trans (hb.mono (by simp))); (have hz1 : w.heap.size < w1.heap.size := by have := hb.size; simp at this; omega); have hL1 := hL.later hB2)
      | (go_at_call 81; refine (lstLay_any lp xs F a l n _ hL1 hk).mono ?_; rintro _ w2 ⟨hF2, hO, rfl⟩; (have hc2 : ∀ o, w2.cell? ⟨w.heap.size, o, none⟩ = w1.cell? ⟨w.heap.size, o, none⟩ := fun o => hO.cell hz1 hwF)))
  all_goals
    obtain ⟨F', h1, h2⟩ := hF2
    have fin := hide (show (∃ F', EngF w2 (.iface 89 (ptrV lp)) (putE xs a l n) F' ∧ NewF w F F') ∧ Only F w w2 from
      ⟨⟨F', ⟨lp, rfl, h1, hk'⟩, fun k hk => (h2 k hk).imp id (fun h => by have := hB2.size; omega)⟩, (Only.of_below _ hB2).trans hO (fun x hx => .inl hx)⟩)
    clear h1 h2 hO hB1 hB2 hk hL hk' hL1 hc hc2 hb
    go_wp2
    go_ret
    exact ⟨fin.out.1, fin.out.2, rfl⟩

theorem set_any (e : Value) (xs : List Ent) (F : List Nat) (a l n : Int) (w : World) (hE : EngF w e xs F) (hn : n = 0 ∨ okE ⟨a, l, n⟩) :
    Calls Try.prog 47 #[e, pfxV a l, .int .i64 n] w fun r w' => (∃ F', EngF w' e (setE xs a l n) F' ∧ NewF w F F') ∧ Only F w w' ∧ r = .returned (.int .i64 (orZ (getE xs a l))) := by
  by_cases h : n = 0
  · subst h
    have := set_take e xs F a l w hE
    simpa [setE] using this
  · have := set_lay e xs F a l n w hE (hn.resolve_left h)
    simpa [setE, h] using this

end Go.Proofs.Ytfioeangigicfaa

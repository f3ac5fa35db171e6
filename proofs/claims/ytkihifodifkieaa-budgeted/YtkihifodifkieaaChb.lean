import Derived.Test.YtkihifodifkieaaChg
namespace Go.Proofs.Ytkihifodifkieaa
open Go.RowKit Go.Shelf

abbrev chgV (a l n : Int) : Value := .agg #[.int .i64 a, .int .i64 l, .int .i64 n]

set_option maxHeartbeats 400000 in
theorem isNext_any (n : Int) (w : World) :
    Calls Try.prog 29 #[.int .i64 n] w fun e w' => e = .returned (.bool (decide (1 ≤ n) && decide (n ≤ 255))) ∧ w' = w := by
  by_cases h : 1 ≤ n
  · go_enter Try.func29, Try.ntmps29
    go_wp2
    go_ret
    exact ⟨by simp [h], rfl⟩
  · go_enter Try.func29, Try.ntmps29
    go_wp2
    go_ret
    exact ⟨by simp; omega, rfl⟩
theorem isNext_no (n : Int) (w : World) (h : ¬ (1 ≤ n ∧ n ≤ 255)) :
    Calls Try.prog 29 #[.int .i64 n] w fun e w' => e = .returned (.bool false) ∧ w' = w := by
  have := isNext_any n w
  rwa [show (decide (1 ≤ n) && decide (n ≤ 255)) = false by simp; omega] at this
theorem isNext_yes (n : Int) (w : World) (h : 1 ≤ n ∧ n ≤ 255) :
    Calls Try.prog 29 #[.int .i64 n] w fun e w' => e = .returned (.bool true) ∧ w' = w := by
  have := isNext_any n w
  rwa [show (decide (1 ≤ n) && decide (n ≤ 255)) = true by simp; omega] at this
theorem valid_no (a l : Int) (w : World) (h : isPfx a l = false) :
    Calls Try.prog 28 #[pfxV a l] w fun e w' => e = .returned (.bool false) ∧ Below w.heap.size w w' := by
  have := valid_any a l w
  rwa [h] at this
theorem valid_yes (a l : Int) (w : World) (h : isPfx a l = true) :
    Calls Try.prog 28 #[pfxV a l] w fun e w' => e = .returned (.bool true) ∧ Below w.heap.size w w' := by
  have := valid_any a l w
  rwa [h] at this

set_option maxHeartbeats 400000 in
theorem change_pfx (bt : Nat) (a l n : Int) (w : World) (h : isPfx a l = false) :
    Calls Try.prog 32 #[ptrV bt, chgV a l n] w fun r w' => Below w.heap.size w w' ∧ r = .returned (.int .i64 2) := by
  go_enter Try.func32, Try.ntmps32
  go_wp2_with (go_at_call 28; refine (valid_no _ _ _ h).mono ?_; rintro _ w1 ⟨rfl, hb⟩)
  go_ret
  exact ⟨(by repeat (first | exact Below.refl _ _ | refine below_drewN ?_ _ | refine Below.drew ?_ | refine Below.trans ?_ (Below.mono (by assumption) (by first | omega | (simp; omega) | simp)) | refine Below.alloc ?_ (by first | omega | (simp; omega) | simp) _ | refine Below.setCell ?_ (by first | omega | (simp; omega) | simp) _)), rfl⟩

set_option maxHeartbeats 400000 in
theorem change_next (bt : Nat) (a l n : Int) (w : World) (h : isPfx a l = true) (hn : n < 0 ∨ 255 < n) :
    Calls Try.prog 32 #[ptrV bt, chgV a l n] w fun r w' => Below w.heap.size w w' ∧ r = .returned (.int .i64 3) := by
  have hn0 : (n != 0) = true := by simp; omega
  have hn1 : ¬ (1 ≤ n ∧ n ≤ 255) := by omega
  have H := hide h
  clear h
  go_enter Try.func32, Try.ntmps32
  go_wp2_with fail
  refine (valid_yes _ _ _ H.out).mono ?_
  rintro _ w1 ⟨rfl, hb⟩
  have k : ∀ o, w1.cell? ⟨w.heap.size + 1, o, none⟩ = (((w.alloc (Obj.cells #[ptrV bt] 95)).alloc (Obj.cells #[.int .i64 a, .int .i64 l, .int .i64 n] 72)).alloc (Obj.cells #[.int .i64 a, .int .i64 l] 54)).cell? ⟨w.heap.size + 1, o, none⟩ := fun o => hb.cell (p := ⟨w.heap.size + 1, o, none⟩) (by simp)
  have k2 : w1.cell? ⟨w.heap.size + 1, 2, none⟩ = some (.int .i64 n) := (k 2).trans (by simp [go_sem])
  clear k
  go_wp2_with (go_at_call 29; refine (isNext_no _ _ hn1).mono ?_; rintro _ w2 ⟨rfl, rfl⟩)
  go_ret
  exact ⟨(by repeat (first | exact Below.refl _ _ | refine below_drewN ?_ _ | refine Below.drew ?_ | refine Below.trans ?_ (Below.mono (by assumption) (by first | omega | (simp; omega) | simp)) | refine Below.alloc ?_ (by first | omega | (simp; omega) | simp) _ | refine Below.setCell ?_ (by first | omega | (simp; omega) | simp) _)), rfl⟩

theorem old_box {w1 w2 : World} {F : List Nat} (hO : Only F (w1.alloc (Obj.cells #[.int .i64 0] 3)).drew w2) (h : w1.heap.size ∉ F) : w2.cell? ⟨w1.heap.size, 0, none⟩ = some (.int .i64 0) ∧ w2.frozen? ⟨w1.heap.size, 0, none⟩ = false :=
  ⟨(hO.cell (by simp) h).trans (by simp), (hO.frozen (by simp) h).trans (by rw [World.frozen?_drew]; simp only [World.frozen?]; rw [World.alloc_heap_new]; rfl)⟩
-- behind Set, whichever came first: the engine, and what else lay there
theorem fin_alloc {w w1 w2 : World} {e : Value} {ys : List Ent} {F : List Nat} (o : Obj) (hB : Below w.heap.size w w1) (hF2 : ∃ F', EngF w2 e ys F' ∧ NewF w1.drew F F') (hO : Only F w1.drew w2) :
    (∃ F', EngF (w2.alloc o) e ys F' ∧ NewF w F F') ∧ Only F w (w2.alloc o) := by
  obtain ⟨F', h1, h2⟩ := hF2
  have hA : Below w2.heap.size w2 (w2.alloc o) := (Below.refl _ w2).alloc (Nat.le_refl _) _
  refine ⟨⟨F', h1.later hA, fun k hk => (h2 k hk).imp id (fun h => by have := hB.size; simp at h; omega)⟩, ?_⟩
  exact ((Only.of_below _ (hB.drew)).trans hO (fun x hx => .inl hx)).trans (Only.of_below [] hA) (fun x hx => by cases hx)
theorem fin_store {w w1 w2 : World} {e : Value} {ys : List Ent} {F : List Nat} (o : Obj) (v : Value) (hB : Below w.heap.size w w1) (hn : w1.heap.size ∉ F) (hF2 : ∃ F', EngF w2 e ys F' ∧ NewF (w1.alloc o).drew F F') (hO : Only F (w1.alloc o).drew w2) :
    (∃ F', EngF (w2.setCell ⟨w1.heap.size, 0, none⟩ v) e ys F' ∧ NewF w F F') ∧ Only F w (w2.setCell ⟨w1.heap.size, 0, none⟩ v) := by
  obtain ⟨F', h1, h2⟩ := hF2
  have hs := hB.size
  have hA : Below w.heap.size w (w1.alloc o).drew := (hB.alloc hs _).drew
  have hk : ∀ k, k ≠ w1.heap.size → (w2.setCell ⟨w1.heap.size, 0, none⟩ v).heap[k]? = w2.heap[k]? := fun k hk => Below.heap_setCell _ _ _ _ hk
  refine ⟨⟨F', h1.kept fun k hk' => hk k (fun e => ?_), fun k hk => (h2 k hk).imp id (fun h => by simp at h; omega)⟩, ?_⟩
  · rcases h2 k hk' with h3 | h3
    · exact hn (e ▸ h3)
    · simp at h3; omega
  · have h3 := (Only.of_below F hA).trans hO (fun x hx => .inl hx)
    exact ⟨h3.os, h3.tape, h3.output, by simpa [World.setCell] using h3.size, fun k hk1 hk2 => (hk k (by omega)).trans (h3.block k hk1 hk2)⟩
theorem three_blocks (w : World) (o1 o2 o3 : Obj) : (((w.alloc o1).alloc o2).alloc o3).heap[w.heap.size + 0]? = some o1 ∧ (((w.alloc o1).alloc o2).alloc o3).heap[w.heap.size + 1]? = some o2 ∧ (((w.alloc o1).alloc o2).alloc o3).heap[w.heap.size + 2]? = some o3 := by
  refine ⟨?_, ?_, ?_⟩
  · exact ((Below.heap_alloc _ _ _ (by simp; omega)).trans (Below.heap_alloc _ _ _ (by simp))).trans (World.alloc_heap_new w _)
  · have := World.alloc_heap_new (w.alloc o1) o2
    rw [World.size_alloc] at this
    exact (Below.heap_alloc _ _ _ (by simp)).trans this
  · have := World.alloc_heap_new ((w.alloc o1).alloc o2) o3
    rwa [World.size_alloc, World.size_alloc] at this

set_option maxHeartbeats 1000000 in
theorem change_none (bt : Nat) (e : Value) (us : List Ud) (G : List Nat) (xs : List Ent) (F : List Nat) (a l : Int) (w : World) (h : isPfx a l = true) (hb0 : BatchF w bt e us G) (hE : EngF w e xs F) (hd : Disj F G)  (hg : getE xs a l = none) :
    Calls Try.prog 32 #[ptrV bt, chgV a l 0] w fun r w' => (∃ F', EngF w' e xs F' ∧ NewF w F F') ∧ Only F w w' ∧ r = .returned (.int .i64 5) := by
  have H := hide h
  have hEl := hE.lt
  have hGl := hb0.lt
  have hFl : ∀ k ∈ F, k < w.heap.size := hE.lt
  have HB := hide hb0
  have HE := hide hE
  have HD := hide hd
  obtain ⟨v, fs, Gc, hbt, hrow, hclo, hbG, hvG, hGe⟩ := hb0
  have lbt := (Array.getElem?_eq_some_iff.1 hbt).1
  have nbt : bt ∉ F := fun hk => hd _ hk (by rw [hGe]; simp)
  have c0 : w.cell? ⟨bt, 0, none⟩ = some e := by simp [World.cell?, hbt]
  have nw : ∀ j, w.heap.size + j ∉ F := fun j hk => by have := hFl _ hk; omega
  have nw0 := nw 0
  have nw1 := nw 1
  have nw2 := nw 2
  clear h hE hd
  go_enter Try.func32, Try.ntmps32
  go_wp2_with fail
  refine (valid_yes _ _ _ H.out).mono ?_
  rintro _ w1 ⟨rfl, hb⟩
  have hB1 : Below w.heap.size w w1 := (((Below.refl _ w).alloc (Nat.le_refl _) _).alloc (by simp) _).alloc (by simp; omega) _ |>.trans (hb.mono (by simp; omega))
  have hz : w.heap.size + 3 ≤ w1.heap.size := by have := hb.size; simp at this; omega
  have hbx : ∀ j, j < 3 → w1.heap[w.heap.size + j]? = (((w.alloc (Obj.cells #[ptrV bt] 95)).alloc (Obj.cells #[.int .i64 a, .int .i64 l, .int .i64 0] 72)).alloc (Obj.cells #[.int .i64 a, .int .i64 l] 54)).heap[w.heap.size + j]? := fun j hj => hb.block (w.heap.size + j) (by simp; omega)
  obtain ⟨q0, q1, q2⟩ := three_blocks w (Obj.cells #[ptrV bt] 95) (Obj.cells #[.int .i64 a, .int .i64 l, .int .i64 0] 72) (Obj.cells #[.int .i64 a, .int .i64 l] 54)
  have b0 := (hbx 0 (by omega)).trans q0
  have b1 := (hbx 1 (by omega)).trans q1
  have b2 := (hbx 2 (by omega)).trans q2
  have k0 : w1.cell? ⟨w.heap.size, 0, none⟩ = some (ptrV bt) := by simp only [World.cell?]; rw [show w.heap.size = w.heap.size + 0 from rfl, b0]; rfl
  have k1 : w1.cell? ⟨w.heap.size + 1, 2, none⟩ = some (.int .i64 0) := by simp only [World.cell?]; rw [b1]; rfl
  have k2 : w1.cell? ⟨w.heap.size + 1 + 1, 0, none⟩ = some (.int .i64 a) := by simp only [World.cell?]; rw [show w.heap.size + 1 + 1 = w.heap.size + 2 from rfl, b2]; rfl
  have k3 : w1.cell? ⟨w.heap.size + 1 + 1, 1, none⟩ = some (.int .i64 l) := by simp only [World.cell?]; rw [show w.heap.size + 1 + 1 = w.heap.size + 2 from rfl, b2]; rfl
  have k4 : w1.cell? ⟨bt, 0, none⟩ = some e := (hB1.cell (p := ⟨bt, 0, none⟩) lbt).trans c0
  have z0 : w.heap.size < w1.heap.size := by omega
  have z1 : w.heap.size + 1 < w1.heap.size := by omega
  have z2 : w.heap.size + 1 + 1 < w1.heap.size := by omega
  have zb : bt < w1.heap.size := by omega
  have HE1 := hide (HE.out.later hB1)
  have nwz : w1.heap.size ∉ F := fun hk => by have := hFl _ hk; omega
  have ne0 : ¬ (w1.heap.size = w.heap.size) := by omega
  have ne1 : ¬ (w1.heap.size = w.heap.size + 1) := by omega
  have ne2 : ¬ (w1.heap.size = w.heap.size + 1 + 1) := by omega
  have ne3 : ¬ (w1.heap.size = bt) := by omega
  have ne4 : ¬ (w.heap.size = w1.heap.size) := by omega
  have ne5 : ¬ (w.heap.size + 1 = w1.heap.size) := by omega
  have ne6 : ¬ (w.heap.size + 1 + 1 = w1.heap.size) := by omega
  have ne7 : ¬ (bt = w1.heap.size) := by omega
  have HB1 := hide hB1
  have Hb := hide hb
  clear hb hbx q0 q1 q2 b0 b1 b2 hB1
  go_wp2
  go_region_held3 (fun w' => w'.cell? ⟨w.heap.size, 0, none⟩ = some (ptrV bt) ∧ w'.cell? ⟨bt, 0, none⟩ = some e ∧ w'.cell? ⟨w.heap.size + 1 + 1, 0, none⟩ = some (.int .i64 a) ∧ w'.cell? ⟨w.heap.size + 1 + 1, 1, none⟩ = some (.int .i64 l) ∧ w'.cell? ⟨w.heap.size + 1, 2, none⟩ = some (.int .i64 0)) (go_keep)
    (first
      | (go_at_call 43; refine (set_any e xs F a l 0 _ ?hE H.out (.inl rfl)).mono ?_; (case hE => exact HE1.out.later (by repeat (first | exact Below.refl _ _ | refine below_drewN ?_ _ | refine Below.drew ?_ | refine Below.trans ?_ (Below.mono (by assumption) (by first | omega | (simp; omega) | simp)) | refine Below.alloc ?_ (by first | omega | (simp; omega) | simp) _ | refine Below.setCell ?_ (by first | omega | (simp; omega) | simp) _))); rintro _ w2 ⟨hF2, hO, rfl⟩; (have zs : w1.heap.size ≤ w2.heap.size := by have := hO.size; simp at this; omega); (have g0 : ∀ o, w2.cell? ⟨w.heap.size, o, none⟩ = w1.cell? ⟨w.heap.size, o, none⟩ := fun o => (hO.cell (by simp; omega) nw0).trans (by simp [go_sem, z0])); (have g1 : ∀ o, w2.cell? ⟨w.heap.size + 1, o, none⟩ = w1.cell? ⟨w.heap.size + 1, o, none⟩ := fun o => (hO.cell (by simp; omega) nw1).trans (by simp [go_sem, z1])); (have g2 : ∀ o, w2.cell? ⟨w.heap.size + 1 + 1, o, none⟩ = w1.cell? ⟨w.heap.size + 1 + 1, o, none⟩ := fun o => (hO.cell (by simp; omega) nw2).trans (by simp [go_sem, z2])); (have g3 : ∀ o, w2.cell? ⟨bt, o, none⟩ = w1.cell? ⟨bt, o, none⟩ := fun o => (hO.cell (by simp; omega) nbt).trans (by simp [go_sem, zb])); (have y0 : w.heap.size < w2.heap.size := by omega); (have y1 : w.heap.size + 1 < w2.heap.size := by omega); (have y2 : w.heap.size + 1 + 1 < w2.heap.size := by omega); (have y3 : bt < w2.heap.size := by omega); (try (have g4 := (old_box hO nwz).1)); (try (have g5 := (old_box hO nwz).2))))
  all_goals
    have o0 : orZ none = 0 := rfl
    have hs0 : setE xs a l 0 = xs := by simp [setE, delE_none hg]
    rw [hs0] at hF2
    first
      | (have fin := hide (fin_alloc (Obj.cells #[.int .i64 0] 3) HB1.out hF2 hO))
      | (have fin := hide (fin_store _ (.int .i64 0) HB1.out nwz hF2 hO))
    clear hF2 hO hs0 hrow hclo hbt hvG
    go_wp2
    go_ret
    exact ⟨fin.out.1, fin.out.2, rfl⟩

end Go.Proofs.Ytkihifodifkieaa

import Derived.Test.YtglbamalagacgaaGreatB1
import Derived.Deep.CutRange
import Derived.Deep.AppendLies
namespace Go.Proofs.YtglbamalagacgaaGreat
open Go.RowKit Go.Shelf
abbrev chgV (a l n : Int) : Value := .agg #[.int .i64 a, .int .i64 l, .int .i64 n]
set_option maxHeartbeats 400000 in
theorem isNext_any (n : Int) (w : World) :
  Calls Tryz.prog 89 #[.int .i64 n] w fun e w' => e = .returned (.bool (decide (1 <= n) && decide (n <= 255))) /\ w' = w := by
 by_cases h : 1 <= n
 ·go_enter Tryz.func89, Tryz.ntmps89
  go_wp2
  go_ret
  exact ⟨by simp [h], rfl⟩
 ·go_enter Tryz.func89, Tryz.ntmps89
  go_wp2
  go_ret
  exact ⟨by simp; omega, rfl⟩
theorem isNext_no (n : Int) (w : World) (h : ¬ (1 <= n /\ n <= 255)) :
  Calls Tryz.prog 89 #[.int .i64 n] w fun e w' => e = .returned (.bool false) /\ w' = w := by
 have := isNext_any n w
 rwa [show (decide (1 <= n) && decide (n <= 255)) = false by simp; omega] at this
theorem isNext_yes (n : Int) (w : World) (h : 1 <= n /\ n <= 255) :
  Calls Tryz.prog 89 #[.int .i64 n] w fun e w' => e = .returned (.bool true) /\ w' = w := by
 have := isNext_any n w
 rwa [show (decide (1 <= n) && decide (n <= 255)) = true by simp; omega] at this
theorem valid_no (a l : Int) (w : World) (h : isPfx a l = false) :
  Calls Tryz.prog 63 #[pfxV a l] w fun e w' => e = .returned (.bool false) /\ Below w.heap.size w w' := by
 have := valid_any a l w
 rwa [h] at this
theorem valid_yes (a l : Int) (w : World) (h : isPfx a l = true) :
  Calls Tryz.prog 63 #[pfxV a l] w fun e w' => e = .returned (.bool true) /\ Below w.heap.size w w' := by
 have := valid_any a l w
 rwa [h] at this
set_option maxHeartbeats 400000 in
theorem prefixOf_any (a l n : Int) (w : World) :
  Calls Tryz.prog 88 #[chgV a l n] w fun e w' => e = .returned (pfxV a l) /\ w' = (w.alloc (Obj.cells #[.int .i64 a, .int .i64 l, .int .i64 n] 103)).alloc (Obj.cells #[.int .i64 a, .int .i64 l] 65) := by
 go_enter Tryz.func88, Tryz.ntmps88
 go_wp2
 exact bodyPost_ret (v := pfxV a l) (by simp [results, Tryz.results88, go_sem]) rfl ⟨rfl, rfl⟩
set_option maxHeartbeats 400000 in
theorem change_pfx (bt : Nat) (a l n : Int) (w : World) (h : isPfx a l = false) :
  Calls Tryz.prog 51 #[ptrV bt, chgV a l n] w fun r w' => Below w.heap.size w w' /\ r = .returned (.int .i64 2) := by
 go_enter Tryz.func51, Tryz.ntmps51
 go_wp2_with fail
 refine (prefixOf_any _ _ _ _).mono ?_
 rintro _ w0 ⟨rfl, rfl⟩
 go_wp2_with (go_at_call 63; refine (valid_no _ _ _ h).mono ?_; rintro _ w1 ⟨rfl, hb⟩)
 go_ret
 exact ⟨(by repeat (first | exact Below.refl _ _ | refine below_drewN ?_ _ | refine Below.drew ?_ | refine Below.trans ?_ (Below.mono (by assumption) ?_) | refine Below.alloc ?_ ?_ _ | refine Below.setCell ?_ ?_ _ | omega | (simp; omega) | simp)), rfl⟩
set_option maxHeartbeats 400000 in
theorem change_next (bt : Nat) (a l n : Int) (w : World) (h : isPfx a l = true) (hn : n < 0 ∨ 255 < n) :
  Calls Tryz.prog 51 #[ptrV bt, chgV a l n] w fun r w' => Below w.heap.size w w' /\ r = .returned (.int .i64 3) := by
 have hn0 : (n != 0) = true := by simp; omega
 have hn1 : ¬ (1 <= n /\ n <= 255) := by omega
 have H := hide h
 clear h
 go_enter Tryz.func51, Tryz.ntmps51
 go_wp2_with fail
 refine (prefixOf_any _ _ _ _).mono ?_
 rintro _ w0 ⟨rfl, rfl⟩
 go_wp2_with fail
 refine (valid_yes _ _ _ H.out).mono ?_
 rintro _ w1 ⟨rfl, hb⟩
 have k : ∀ o, w1.cell? ⟨w.heap.size + 1, o, none⟩ = (((((w.alloc (Obj.cells #[ptrV bt] 138)).alloc (Obj.cells #[.int .i64 a, .int .i64 l, .int .i64 n] 103)).alloc (Obj.cells #[.int .i64 a, .int .i64 l, .int .i64 n] 103)).alloc (Obj.cells #[.int .i64 a, .int .i64 l] 65)).alloc (Obj.cells #[.int .i64 a, .int .i64 l] 65)).cell? ⟨w.heap.size + 1, o, none⟩ := fun o => hb.cell (p := ⟨w.heap.size + 1, o, none⟩) (by simp)
 have k2 : w1.cell? ⟨w.heap.size + 1, 2, none⟩ = some (.int .i64 n) := (k 2).trans (by simp [go_sem])
 clear k
 go_wp2_with (go_at_call 89; refine (isNext_no _ _ hn1).mono ?_; rintro _ w2 ⟨rfl, rfl⟩)
 go_ret
 exact ⟨(by repeat (first | exact Below.refl _ _ | refine below_drewN ?_ _ | refine Below.drew ?_ | refine Below.trans ?_ (Below.mono (by assumption) ?_) | refine Below.alloc ?_ ?_ _ | refine Below.setCell ?_ ?_ _ | omega | (simp; omega) | simp)), rfl⟩
theorem old_box {w1 w2 : World} {F : List Nat} (hO : Only F (w1.alloc (Obj.cells #[.int .i64 0] 3)).drew w2) (h : w1.heap.size ∉ F) : w2.cell? ⟨w1.heap.size, 0, none⟩ = some (.int .i64 0) /\ w2.frozen? ⟨w1.heap.size, 0, none⟩ = false :=
 ⟨(hO.cell (by simp) h).trans (by simp), (hO.frozen (by simp) h).trans (by rw [World.frozen?_drew]; simp only [World.frozen?]; rw [World.alloc_heap_new]; rfl)⟩
theorem fin_alloc {w w1 w2 : World} {e : Value} {ys : List Ent} {F : List Nat} (o : Obj) (hB : Below w.heap.size w w1) (hF2 : ∃ F', EngF w2 e ys F' /\ NewF w1.drew F F') (hO : Only F w1.drew w2) :
  (∃ F', EngF (w2.alloc o) e ys F' /\ NewF w F F') /\ Only F w (w2.alloc o) := by
 obtain ⟨F', h1, h2⟩ := hF2
 have hA : Below w2.heap.size w2 (w2.alloc o) := (Below.refl _ w2).alloc (Nat.le_refl _) _
 refine ⟨⟨F', h1.later hA, fun k hk => (h2 k hk).imp id (fun h => by have := hB.size; simp at h; omega)⟩, ?_⟩
 exact ((Only.of_below _ (hB.drew)).trans hO (fun x hx => .inl hx)).trans (Only.of_below [] hA) (fun x hx => by cases hx)
theorem fin_store {w w1 w2 : World} {e : Value} {ys : List Ent} {F : List Nat} (o : Obj) (v : Value) (hB : Below w.heap.size w w1) (hn : w1.heap.size ∉ F) (hF2 : ∃ F', EngF w2 e ys F' /\ NewF (w1.alloc o).drew F F') (hO : Only F (w1.alloc o).drew w2) :
  (∃ F', EngF (w2.setCell ⟨w1.heap.size, 0, none⟩ v) e ys F' /\ NewF w F F') /\ Only F w (w2.setCell ⟨w1.heap.size, 0, none⟩ v) := by
 obtain ⟨F', h1, h2⟩ := hF2
 have hs := hB.size
 have hA : Below w.heap.size w (w1.alloc o).drew := (hB.alloc hs _).drew
 have hk : ∀ k, k ≠ w1.heap.size -> (w2.setCell ⟨w1.heap.size, 0, none⟩ v).heap[k]? = w2.heap[k]? := fun k hk => Below.heap_setCell _ _ _ _ hk
 refine ⟨⟨F', h1.kept fun k hk' => hk k (fun e => ?_), fun k hk => (h2 k hk).imp id (fun h => by simp at h; omega)⟩, ?_⟩
 ·rcases h2 k hk' with h3 | h3
  ·exact hn (e ▸ h3)
  ·simp at h3; omega
 ·have h3 := (Only.of_below F hA).trans hO (fun x hx => .inl hx)
  exact ⟨h3.os, h3.tape, h3.output, by simpa [World.setCell] using h3.size, fun k hk1 hk2 => (hk k (by omega)).trans (h3.block k hk1 hk2)⟩
theorem five_blocks (w : World) (o1 o2 o3 : Obj) : (((((w.alloc o1).alloc o2).alloc o2).alloc o3).alloc o3).heap[w.heap.size + 0]? = some o1 /\ (((((w.alloc o1).alloc o2).alloc o2).alloc o3).alloc o3).heap[w.heap.size + 1]? = some o2 /\ (((((w.alloc o1).alloc o2).alloc o2).alloc o3).alloc o3).heap[w.heap.size + 4]? = some o3 := by
 refine ⟨?_, ?_, ?_⟩
 ·exact ((((Below.heap_alloc _ _ _ (by simp only [World.size_alloc]; omega)).trans (Below.heap_alloc _ _ _ (by simp only [World.size_alloc]; omega))).trans (Below.heap_alloc _ _ _ (by simp only [World.size_alloc]; omega))).trans (Below.heap_alloc _ _ _ (by simp only [World.size_alloc]; omega))).trans (World.alloc_heap_new w _)
 ·have := World.alloc_heap_new (w.alloc o1) o2
  rw [World.size_alloc] at this
  exact (((Below.heap_alloc _ _ _ (by simp only [World.size_alloc]; omega)).trans (Below.heap_alloc _ _ _ (by simp only [World.size_alloc]; omega))).trans (Below.heap_alloc _ _ _ (by simp only [World.size_alloc]; omega))).trans this
 ·have := World.alloc_heap_new ((((w.alloc o1).alloc o2).alloc o2).alloc o3) o3
  rwa [World.size_alloc, World.size_alloc, World.size_alloc, World.size_alloc] at this
set_option maxHeartbeats 1000000 in
theorem change_none (bt : Nat) (e : Value) (us : List Ud) (G : List Nat) (xs : List Ent) (F : List Nat) (a l : Int) (w : World) (h : isPfx a l = true) (hb0 : BatchF w bt e us G) (hE : EngF w e xs F) (hd : Disj F G)  (hg : getE xs a l = none) :
  Calls Tryz.prog 51 #[ptrV bt, chgV a l 0] w fun r w' => (∃ F', EngF w' e xs F' /\ NewF w F F') /\ Only F w w' /\ r = .returned (.int .i64 5) := by
 have H := hide h
 have hEl := hE.lt
 have hGl := hb0.lt
 have hFl : ∀ k ∈ F, k < w.heap.size := hE.lt
 have HB := hide hb0
 have HE := hide hE
 have HD := hide hd
 obtain ⟨v, fs, Gc, hbt, hrow, hclo, hbG, hvG, hGe⟩ := hb0
 have lbt := (Array.getElem?_eq_some_iff.1 hbt).1
 have nbt : bt ∉ F := fun hk => hd _ hk (by rw [hGe]; simp)
 have c0 : w.cell? ⟨bt, 0, none⟩ = some e := by simp [World.cell?, hbt]
 have nw : ∀ j, w.heap.size + j ∉ F := fun j hk => by have := hFl _ hk; omega
 have nw0 := nw 0
 have nw1 := nw 1
 have nw2 := nw 4
 clear h hE hd
 go_enter Tryz.func51, Tryz.ntmps51
 go_wp2_with fail
 refine (prefixOf_any _ _ _ _).mono ?_
 rintro _ w0 ⟨rfl, rfl⟩
 go_wp2_with fail
 refine (valid_yes _ _ _ H.out).mono ?_
 rintro _ w1 ⟨rfl, hb⟩
 have hB1 : Below w.heap.size w w1 := ((((((Below.refl _ w).alloc (Nat.le_refl _) _).alloc (by simp) _).alloc (by simp; omega) _).alloc (by simp; omega) _).alloc (by simp; omega) _).trans (hb.mono (by simp; omega))
 have hz : w.heap.size + 5 <= w1.heap.size := by have := hb.size; simp at this; omega
 have hbx : ∀ j, j < 5 -> w1.heap[w.heap.size + j]? = (((((w.alloc (Obj.cells #[ptrV bt] 138)).alloc (Obj.cells #[.int .i64 a, .int .i64 l, .int .i64 0] 103)).alloc (Obj.cells #[.int .i64 a, .int .i64 l, .int .i64 0] 103)).alloc (Obj.cells #[.int .i64 a, .int .i64 l] 65)).alloc (Obj.cells #[.int .i64 a, .int .i64 l] 65)).heap[w.heap.size + j]? := fun j hj => hb.block (w.heap.size + j) (by simp; omega)
 obtain ⟨q0, q1, q2⟩ := five_blocks w (Obj.cells #[ptrV bt] 138) (Obj.cells #[.int .i64 a, .int .i64 l, .int .i64 0] 103) (Obj.cells #[.int .i64 a, .int .i64 l] 65)
 have b0 := (hbx 0 (by omega)).trans q0
 have b1 := (hbx 1 (by omega)).trans q1
 have b2 := (hbx 4 (by omega)).trans q2
 have k0 : w1.cell? ⟨w.heap.size, 0, none⟩ = some (ptrV bt) := by simp only [World.cell?]; rw [show w.heap.size = w.heap.size + 0 from rfl, b0]; rfl
 have k1 : w1.cell? ⟨w.heap.size + 1, 2, none⟩ = some (.int .i64 0) := by simp only [World.cell?]; rw [b1]; rfl
 have k2 : w1.cell? ⟨w.heap.size + 1 + 1 + 1 + 1, 0, none⟩ = some (.int .i64 a) := by simp only [World.cell?]; rw [show w.heap.size + 1 + 1 + 1 + 1 = w.heap.size + 4 from rfl, b2]; rfl
 have k3 : w1.cell? ⟨w.heap.size + 1 + 1 + 1 + 1, 1, none⟩ = some (.int .i64 l) := by simp only [World.cell?]; rw [show w.heap.size + 1 + 1 + 1 + 1 = w.heap.size + 4 from rfl, b2]; rfl
 have k4 : w1.cell? ⟨bt, 0, none⟩ = some e := (hB1.cell (p := ⟨bt, 0, none⟩) lbt).trans c0
 have z0 : w.heap.size < w1.heap.size := by omega
 have z1 : w.heap.size + 1 < w1.heap.size := by omega
 have z2 : w.heap.size + 1 + 1 + 1 + 1 < w1.heap.size := by omega
 have zb : bt < w1.heap.size := by omega
 have HE1 := hide (HE.out.later hB1)
 have nwz : w1.heap.size ∉ F := fun hk => by have := hFl _ hk; omega
 have ne0 : ¬ (w1.heap.size = w.heap.size) := by omega
 have ne1 : ¬ (w1.heap.size = w.heap.size + 1) := by omega
 have ne2 : ¬ (w1.heap.size = w.heap.size + 1 + 1 + 1 + 1) := by omega
 have ne3 : ¬ (w1.heap.size = bt) := by omega
 have ne4 : ¬ (w.heap.size = w1.heap.size) := by omega
 have ne5 : ¬ (w.heap.size + 1 = w1.heap.size) := by omega
 have ne6 : ¬ (w.heap.size + 1 + 1 + 1 + 1 = w1.heap.size) := by omega
 have ne7 : ¬ (bt = w1.heap.size) := by omega
 have HB1 := hide hB1
 have Hb := hide hb
 clear hb hbx q0 q1 q2 b0 b1 b2 hB1
 go_wp2
 go_region_held3 (fun w' => w'.cell? ⟨w.heap.size, 0, none⟩ = some (ptrV bt) /\ w'.cell? ⟨bt, 0, none⟩ = some e /\ w'.cell? ⟨w.heap.size + 1 + 1 + 1 + 1, 0, none⟩ = some (.int .i64 a) /\ w'.cell? ⟨w.heap.size + 1 + 1 + 1 + 1, 1, none⟩ = some (.int .i64 l) /\ w'.cell? ⟨w.heap.size + 1, 2, none⟩ = some (.int .i64 0)) (go_keep)
  (first
   | (go_at_call 90; refine (set_any e xs F a l 0 _ ?hE H.out (.inl rfl)).mono ?_; (case hE => exact HE1.out.later (by repeat (first | exact Below.refl _ _ | refine below_drewN ?_ _ | refine Below.drew ?_ | refine Below.trans ?_ (Below.mono (by assumption) ?_) | refine Below.alloc ?_ ?_ _ | refine Below.setCell ?_ ?_ _ | omega | (simp; omega) | simp))); rintro _ w2 ⟨hF2, hO, rfl⟩; (have zs : w1.heap.size <= w2.heap.size := by have := hO.size; simp at this; omega); (have g0 : ∀ o, w2.cell? ⟨w.heap.size, o, none⟩ = w1.cell? ⟨w.heap.size, o, none⟩ := fun o => (hO.cell (by simp; omega) nw0).trans (by simp [go_sem, z0])); (have g1 : ∀ o, w2.cell? ⟨w.heap.size + 1, o, none⟩ = w1.cell? ⟨w.heap.size + 1, o, none⟩ := fun o => (hO.cell (by simp; omega) nw1).trans (by simp [go_sem, z1])); (have g2 : ∀ o, w2.cell? ⟨w.heap.size + 1 + 1 + 1 + 1, o, none⟩ = w1.cell? ⟨w.heap.size + 1 + 1 + 1 + 1, o, none⟩ := fun o => (hO.cell (by simp; omega) nw2).trans (by simp [go_sem, z2])); (have g3 : ∀ o, w2.cell? ⟨bt, o, none⟩ = w1.cell? ⟨bt, o, none⟩ := fun o => (hO.cell (by simp; omega) nbt).trans (by simp [go_sem, zb])); (have y0 : w.heap.size < w2.heap.size := by omega); (have y1 : w.heap.size + 1 < w2.heap.size := by omega); (have y2 : w.heap.size + 1 + 1 + 1 + 1 < w2.heap.size := by omega); (have y3 : bt < w2.heap.size := by omega); (try (have g4 := (old_box hO nwz).1)); (try (have g5 := (old_box hO nwz).2))))
 all_goals
  have o0 : orZ none = 0 := rfl
  have hs0 : setE xs a l 0 = xs := by simp [setE, delE_none hg]
  rw [hs0] at hF2
  first
   | (have fin := hide (fin_alloc (Obj.cells #[.int .i64 0] 3) HB1.out hF2 hO))
   | (have fin := hide (fin_store _ (.int .i64 0) HB1.out nwz hF2 hO))
  clear hF2 hO hs0 hrow hclo hbt hvG
  go_wp2
  go_ret
  exact ⟨fin.out.1, fin.out.2, rfl⟩
end Go.Proofs.YtglbamalagacgaaGreat

namespace Go.Proofs.YtglbamalagacgaaGreat
open Go.RowKit Go.Shelf
structure AfterSet (w w1 w' : World) (bt bo : Nat) (e : Value) (ys : List Ent) (us : List Ud) (F G : List Nat) (a l n old : Int) : Prop where
 eng : ∃ F', EngF w' e ys F' /\ NewF w F F' /\ bo ∉ F' /\ w.heap.size + 0 ∉ F' /\ w.heap.size + 4 ∉ F' /\ Disj F' G
 only : Only F w w'
 bat : BatchF w' bt e us G
 b0 : w'.heap[w.heap.size + 0]? = some (.cells #[ptrV bt] 138 (0, 0))
 b1 : w'.heap[w.heap.size + 1]? = some (.cells #[.int .i64 a, .int .i64 l, .int .i64 n] 103 (0, 0))
 b2 : w'.heap[w.heap.size + 4]? = some (.cells #[.int .i64 a, .int .i64 l] 65 (0, 0))
 old : w'.heap[bo]? = some (.cells #[.int .i64 old] 3 (0, 0))
 bol : w.heap.size + 5 <= bo
 wl : ∀ k ∈ G, k < w.heap.size
abbrev Boxes (w w1 : World) (bt : Nat) (a l n : Int) : Prop := w1.heap[w.heap.size + 0]? = some (.cells #[ptrV bt] 138 (0, 0)) /\ w1.heap[w.heap.size + 1]? = some (.cells #[.int .i64 a, .int .i64 l, .int .i64 n] 103 (0, 0)) /\ w1.heap[w.heap.size + 4]? = some (.cells #[.int .i64 a, .int .i64 l] 65 (0, 0))
theorem after_alloc {w w1 w2 : World} {bt : Nat} {e : Value} {ys : List Ent} {us : List Ud} {F G : List Nat} {a l n old : Int} (hB : Below w.heap.size w w1) (hbx : Boxes w w1 bt a l n) (hb : BatchF w bt e us G) (hd : Disj F G) (hFl : ∀ k ∈ F, k < w.heap.size)
  (hF2 : ∃ F', EngF w2 e ys F' /\ NewF w1.drew F F') (hO : Only F w1.drew w2) :
  AfterSet w w1 (w2.alloc (.cells #[.int .i64 old] 3)) bt w2.heap.size e ys us F G a l n old := by
 have hGl := hb.lt
 obtain ⟨F', h1, h2⟩ := hF2
 have hs := hO.size
 have hs1 := hB.size
 have hA : Below w2.heap.size w2 (w2.alloc (.cells #[.int .i64 old] 3)) := (Below.refl _ w2).alloc (Nat.le_refl _) _
 have hz : w.heap.size + 4 < w1.heap.size := (Array.getElem?_eq_some_iff.1 hbx.2.2).1
 simp at hs
 have keep : ∀ k, k < w1.heap.size -> k ∉ F -> (w2.alloc (.cells #[.int .i64 old] 3)).heap[k]? = w1.heap[k]? := fun k hk hn => (hA.block k (by omega)).trans (hO.block k hk hn)
 have nF : ∀ j, w.heap.size + j ∉ F := fun j h => by have := hFl _ h; omega
 have nF' : ∀ j, w.heap.size + j < w1.heap.size -> w.heap.size + j ∉ F' := fun j hj h => by
  rcases h2 _ h with h3 | h3
  ·exact nF j h3
  ·simp at h3; omega
 refine ⟨⟨F', h1.later hA, fun k hk => (h2 k hk).imp id (fun h => by simp at h; omega), fun h => by have := h1.lt _ h; omega, nF' 0 (by omega), nF' 4 (by omega), ?_⟩, (fin_alloc _ hB ⟨F', h1, h2⟩ hO).2, ?_, (keep _ (by omega) (nF 0)).trans hbx.1, (keep _ (by omega) (nF 1)).trans hbx.2.1, (keep _ (by omega) (nF 4)).trans hbx.2.2, World.alloc_heap_new w2 _, by omega, hGl⟩
 ·exact hd.new h2 (fun k hk => by have := hGl k hk; simp; omega)
 ·exact hb.kept fun k hk => (keep k (by have := hGl k hk; omega) (fun h => hd k h hk)).trans (hB.block k (hGl k hk))
theorem after_store {w w1 w2 : World} {bt : Nat} {e : Value} {ys : List Ent} {us : List Ud} {F G : List Nat} {a l n old : Int} (hB : Below w.heap.size w w1) (hbx : Boxes w w1 bt a l n) (hb : BatchF w bt e us G) (hd : Disj F G) (hFl : ∀ k ∈ F, k < w.heap.size) (hn : w1.heap.size ∉ F)
  (hF2 : ∃ F', EngF w2 e ys F' /\ NewF (w1.alloc (.cells #[.int .i64 0] 3)).drew F F') (hO : Only F (w1.alloc (.cells #[.int .i64 0] 3)).drew w2) :
  AfterSet w w1 (w2.setCell ⟨w1.heap.size, 0, none⟩ (.int .i64 old)) bt w1.heap.size e ys us F G a l n old := by
 have hGl := hb.lt
 obtain ⟨F', h1, h2⟩ := hF2
 have hs := hO.size
 have hs1 := hB.size
 have hz : w.heap.size + 4 < w1.heap.size := (Array.getElem?_eq_some_iff.1 hbx.2.2).1
 simp at hs
 have hk0 : ∀ k, k ≠ w1.heap.size -> (w2.setCell ⟨w1.heap.size, 0, none⟩ (.int .i64 old)).heap[k]? = w2.heap[k]? := fun k hk => Below.heap_setCell _ _ _ _ hk
 have keep : ∀ k, k < w1.heap.size -> k ∉ F -> (w2.setCell ⟨w1.heap.size, 0, none⟩ (.int .i64 old)).heap[k]? = w1.heap[k]? := fun k hk hn' => ((hk0 k (by omega)).trans (hO.block k (by simp; omega) hn')).trans (Below.heap_alloc w1 _ k hk)
 have nF : ∀ j, w.heap.size + j ∉ F := fun j h => by have := hFl _ h; omega
 have nF' : ∀ k, k <= w1.heap.size -> k ∉ F -> k ∉ F' := fun k hk hk' h => by
  rcases h2 _ h with h3 | h3
  ·exact hk' h3
  ·simp at h3; omega
 have hold : w2.heap[w1.heap.size]? = some (.cells #[.int .i64 0] 3 (0, 0)) := (hO.block _ (by simp) hn).trans (World.alloc_heap_new w1 _)
 obtain ⟨_, r2⟩ := fin_store (.cells #[.int .i64 0] 3) (.int .i64 old) hB hn ⟨F', h1, h2⟩ hO
 refine ⟨⟨F', h1.kept fun k hk' => hk0 k (fun e => nF' _ (Nat.le_refl _) hn (e ▸ hk')), fun k hk => (h2 k hk).imp id (fun h => by simp at h; omega), nF' _ (Nat.le_refl _) hn, nF' _ (by omega) (nF 0), nF' _ (by omega) (nF 4), ?_⟩, r2, ?_, (keep _ (by omega) (nF 0)).trans hbx.1, (keep _ (by omega) (nF 1)).trans hbx.2.1, (keep _ (by omega) (nF 4)).trans hbx.2.2, ?_, by omega, hGl⟩
 ·exact hd.new h2 (fun k hk => by have := hGl k hk; simp; omega)
 ·exact hb.kept fun k hk => (keep k (by have := hGl k hk; omega) (fun h => hd k h hk)).trans (hB.block k (hGl k hk))
 ·rw [setCell_eq_setRow w2 w1.heap.size 0 _ _ _ _ hold]
  exact setRow_heap w2 _ _ _ _ _ hold
theorem funcInfo : ∃ i, Tryz.prog.info? 1 = some i /\ i.zero = some .nilFunc /\ i.size = 1 /\ i.bytes = 8 := by
 have h : (Tryz.prog.info? 1).map (fun i => (i.zero, i.size, i.bytes)) = some (some .nilFunc, 1, 8) := by kernel_rfl
 cases hq : Tryz.prog.info? 1 with
 | none => simp [hq] at h
 | some i => simp [hq] at h; exact ⟨i, rfl, h.1, h.2.1, h.2.2⟩
theorem append_clo {w : World} (ty : TypeId) (v : Value) (n : Nat) (fs : List Value) (f : Value) (hf : f.oneCell' = true) (hrow : RowG 1 1 w v n fs) (hn : n <= 1000000) :
  ∃ g cap w', (Builtin.append_ #[104, 104] ty #[v, .slice (some ⟨w.heap.size, 0, none⟩) 1 1]).run Tryz.prog (w.alloc (.cells #[f] 1)).drew = .ok (.slice (some ⟨g, 0, none⟩) (n + 1) cap) w' ∧
   RowG 1 1 w' (.slice (some ⟨g, 0, none⟩) (n + 1) cap) (n + 1) (fs ++ [f]) /\ (w.alloc (.cells #[f] 1)).drew.grownBy w' v.ownBlock /\ (some g = v.ownBlock ∨ w.heap.size < g) := by
 obtain ⟨i, hi, hz, hs, hb⟩ := funcInfo
 have hA : Below w.heap.size w (w.alloc (.cells #[f] 1)).drew := ((Below.refl _ w).alloc (Nat.le_refl _) _).drew
 obtain ⟨g, cap, w', h1, h2, h3, h4⟩ := run_appendG (P := Tryz.prog) (w.alloc (.cells #[f] 1)).drew 104 ty 1 i .nilFunc 1 8 Tryz.underlying104 hi hz hs hb rfl (by omega) (by omega) v n fs (hrow.kept fun g hg => hA.block g (hrow.lt g hg)) ⟨w.heap.size, 0, none⟩ 1 [f] rfl
  (fun j u hj => by
   have := cell_one_new w f 1 j u hj
   rw [World.cell?_drew]
   exact this) (by simpa using hf) hn
 exact ⟨g, cap, w', h1, h2, h3, h4.imp id (fun h => by simp at h; omega)⟩
theorem pushed {w w1 wc w4 : World} {bt bo g cap : Nat} {e v' : Value} {ys : List Ent} {us : List Ud} {F G : List Nat} {a l n old : Int} {fs' : List Value} {Gc' : List Nat} (hA : AfterSet w w1 wc bt bo e ys us F G a l n old)
  (gbt : wc.heap[bt]? = some (.cells #[e, v'] 106 (0, 0))) (gclo : CloS wc bt fs' us Gc') (gbG : bt ∉ Gc') (gvG : ∀ g, v'.ownBlock = some g -> g ≠ bt /\ g ∉ Gc') (gGe : G = bt :: (v'.ownBlock.toList ++ Gc')) (_vlt : ∀ k, v'.ownBlock = some k -> k < wc.heap.size)
  (hrow4 : RowG 1 1 w4 (.slice (some ⟨g, 0, none⟩) (us.length + 1) cap) (us.length + 1) (fs' ++ [.func (.func 91) #[] #[ptrV w.heap.size, ptrV (w.heap.size + 1 + 1 + 1 + 1), ptrV bo]]))
  (hg4 : (wc.alloc (.cells #[.func (.func 91) #[] #[ptrV w.heap.size, ptrV (w.heap.size + 1 + 1 + 1 + 1), ptrV bo]] 1)).drew.grownBy w4 v'.ownBlock) (hfr : some g = v'.ownBlock ∨ wc.heap.size < g) :
  (∃ F' G', EngF (w4.setCell ⟨bt, 1, none⟩ (.slice (some ⟨g, 0, none⟩) (us.length + 1) cap)) e ys F' /\ BatchF (w4.setCell ⟨bt, 1, none⟩ (.slice (some ⟨g, 0, none⟩) (us.length + 1) cap)) bt e (us ++ [⟨a, l, old⟩]) G' /\ NewF w F F' /\ NewF w G G' /\ Disj F' G') ∧
   Only (F ++ G) w (w4.setCell ⟨bt, 1, none⟩ (.slice (some ⟨g, 0, none⟩) (us.length + 1) cap)) := by
 obtain ⟨F', hE', hNF, hboF, hw0F, hw2F, hdF⟩ := hA.eng
 have hlb := (Array.getElem?_eq_some_iff.1 gbt).1
 have hl0 := (Array.getElem?_eq_some_iff.1 hA.b0).1
 have hl2 := (Array.getElem?_eq_some_iff.1 hA.b2).1
 have hlo := (Array.getElem?_eq_some_iff.1 hA.old).1
 have hGw := hA.wl
 have hbol := hA.bol
 have hsz := hg4.size
 simp at hsz
 have hbtw : bt < w.heap.size := hGw _ (by rw [gGe]; simp)
 have hGcw : ∀ k ∈ Gc', k < w.heap.size := fun k hk => hGw _ (by rw [gGe]; simp [hk])
 have hvw : ∀ k, v'.ownBlock = some k -> k < w.heap.size := fun k hk => hGw _ (by rw [gGe]; simp [hk])
 have keep : ∀ k, k < wc.heap.size -> k ≠ bt -> some k ≠ v'.ownBlock -> (w4.setCell ⟨bt, 1, none⟩ (.slice (some ⟨g, 0, none⟩) (us.length + 1) cap)).heap[k]? = wc.heap[k]? := fun k hk hn1 hn2 =>
  ((Below.heap_setCell _ _ _ _ hn1).trans (hg4.block k (by simp; omega) hn2)).trans (Below.heap_alloc wc _ k hk)
 have gb4 : w4.heap[bt]? = some (.cells #[e, v'] 106 (0, 0)) := ((hg4.block bt (by simp; omega) (fun h => (gvG bt h.symm).1 rfl)).trans (Below.heap_alloc wc _ bt hlb)).trans gbt
 have e5 := setCell_eq_setRow w4 bt 1 _ _ _ (.slice (some ⟨g, 0, none⟩) (us.length + 1) cap) gb4
 have gb5 : (w4.setCell ⟨bt, 1, none⟩ (.slice (some ⟨g, 0, none⟩) (us.length + 1) cap)).heap[bt]? = some (.cells #[e, .slice (some ⟨g, 0, none⟩) (us.length + 1) cap] 106 (0, 0)) := by
  rw [e5]; exact setRow_heap w4 bt _ _ _ _ gb4
 have hnv : ∀ k, w.heap.size <= k -> some k ≠ v'.ownBlock := fun k hk h => by have := hvw k h.symm; omega
 have gne : g ≠ bt := by
  rcases hfr with h | h
  ·exact (gvG g h.symm).1
  ·omega
 have gnew : g ∈ G ∨ wc.heap.size < g := by
  rcases hfr with h | h
  ·exact .inl (by rw [gGe]; simp [<- h])
  ·exact .inr h
 have hclo5 : CloS (w4.setCell ⟨bt, 1, none⟩ (.slice (some ⟨g, 0, none⟩) (us.length + 1) cap)) bt fs' us Gc' := gclo.kept fun k hk => keep k (by have := hGcw k hk; omega) (fun h => gbG (h ▸ hk)) (fun h => (gvG k h.symm).2 hk)
 have hclo1 : CloF (w4.setCell ⟨bt, 1, none⟩ (.slice (some ⟨g, 0, none⟩) (us.length + 1) cap)) bt (.func (.func 91) #[] #[ptrV w.heap.size, ptrV (w.heap.size + 1 + 1 + 1 + 1), ptrV bo]) ⟨a, l, old⟩ [w.heap.size, w.heap.size + 1 + 1 + 1 + 1, bo] :=
  ⟨w.heap.size, w.heap.size + 1 + 1 + 1 + 1, bo, rfl, (keep _ (by omega) (by omega) (hnv _ (by omega))).trans hA.b0, (keep _ (by omega) (by omega) (hnv _ (by omega))).trans hA.b2, (keep _ (by omega) (by omega) (hnv _ (by omega))).trans hA.old, rfl⟩
 refine ⟨⟨F', bt :: ([g] ++ (Gc' ++ [w.heap.size, w.heap.size + 1 + 1 + 1 + 1, bo])), hE'.kept fun k hk => keep k (hE'.lt k hk) (fun h => hdF k hk (by rw [gGe, h]; simp)) (fun h => hdF k hk (by rw [gGe]; simp [<- h])), ?_, hNF, ?_, ?_⟩, ?_⟩
 ·refine ⟨.slice (some ⟨g, 0, none⟩) (us.length + 1) cap, _, Gc' ++ [w.heap.size, w.heap.size + 1 + 1 + 1 + 1, bo], gb5, ?_, hclo5.snoc hclo1, ?_, ?_, rfl⟩
  ·rw [List.length_append, List.length_singleton]
   exact hrow4.kept fun k hk => by cases hk; exact Below.heap_setCell _ _ _ _ gne
  ·intro h
   simp at h
   rcases h with h | h | h | h
   ·exact gbG h
   ·omega
   ·omega
   ·omega
  ·intro k hk
   cases hk
   refine ⟨gne, fun h => ?_⟩
   simp at h
   rcases hfr with h1 | h1
   ·rcases h with h | h | h | h
    ·exact (gvG g h1.symm).2 h
    ·have := hvw g h1.symm; omega
    ·have := hvw g h1.symm; omega
    ·have := hvw g h1.symm; omega
   ·rcases h with h | h | h | h
    ·have := hGcw g h; omega
    ·omega
    ·omega
    ·omega
 ·intro k hk
  simp at hk
  rcases hk with rfl | rfl | hk | rfl | rfl | rfl
  ·exact .inl (by rw [gGe]; simp)
  ·rcases gnew with h | h
   ·exact .inl h
   ·exact .inr (by omega)
  ·exact .inl (by rw [gGe]; simp [hk])
  ·exact .inr (Nat.le_refl _)
  ·exact .inr (by omega)
  ·exact .inr (by omega)
 ·intro k hk h
  simp at h
  rcases h with rfl | rfl | h | rfl | rfl | rfl
  ·exact hdF _ hk (by rw [gGe]; simp)
  ·rcases gnew with h | h
   ·exact hdF _ hk h
   ·have := hE'.lt _ hk; omega
  ·exact hdF _ hk (by rw [gGe]; simp [h])
  ·exact hw0F hk
  ·exact hw2F hk
  ·exact hboF hk
 ·have h1 := hA.only
  refine ⟨hg4.os.trans h1.os, hg4.tape.trans h1.tape, hg4.output.trans h1.output, ?_, fun k hk hn => ?_⟩
  ·have := h1.size
   have e : (w4.setCell ⟨bt, 1, none⟩ (.slice (some ⟨g, 0, none⟩) (us.length + 1) cap)).heap.size = w4.heap.size := by simp [World.setCell]
   omega
  ·have hs1 := h1.size
   exact (keep k (by omega) (fun h => hn (by rw [gGe, h]; simp)) (fun h => hn (by rw [gGe]; simp [<- h]))).trans (h1.block k hk (fun h => hn (by simp [h])))
set_option maxHeartbeats 1000000 in
theorem change_lay (bt : Nat) (e : Value) (us : List Ud) (G : List Nat) (xs : List Ent) (F : List Nat) (a l n : Int) (w : World) (h : isPfx a l = true) (hb0 : BatchF w bt e us G) (hE : EngF w e xs F) (hd : Disj F G) (hus : us.length <= 100) (hn : 1 <= n /\ n <= 255) :
  Calls Tryz.prog 51 #[ptrV bt, chgV a l n] w fun r w' => (∃ F' G', EngF w' e (setE xs a l n) F' /\ BatchF w' bt e (us ++ [⟨a, l, orZ (getE xs a l)⟩]) G' /\ NewF w F F' /\ NewF w G G' /\ Disj F' G') /\ Only (F ++ G) w w' /\ r = .returned (.int .i64 0) := by
 have hn0 : (n != 0) = true := by simp; omega
 have hn1 : (n == 0) = false := by simp; omega
 have H := hide h
 have hEl := hE.lt
 have hGl := hb0.lt
 have hFl : ∀ k ∈ F, k < w.heap.size := hE.lt
 have HB := hide hb0
 have HE := hide hE
 have HD := hide hd
 obtain ⟨v, fs, Gc, hbt, hrow, hclo, hbG, hvG, hGe⟩ := hb0
 have lbt := (Array.getElem?_eq_some_iff.1 hbt).1
 have nbt : bt ∉ F := fun hk => hd _ hk (by rw [hGe]; simp)
 have c0 : w.cell? ⟨bt, 0, none⟩ = some e := by simp [World.cell?, hbt]
 have nw : ∀ j, w.heap.size + j ∉ F := fun j hk => by have := hFl _ hk; omega
 have nw0 := nw 0
 have nw1 := nw 1
 have nw2 := nw 4
 have hon : n = 0 ∨ okE ⟨a, l, n⟩ := .inr ⟨h, hn⟩
 have HH := hide hon
 clear h hE hd hon
 go_enter Tryz.func51, Tryz.ntmps51
 go_wp2_with fail
 refine (prefixOf_any _ _ _ _).mono ?_
 rintro _ w0 ⟨rfl, rfl⟩
 go_wp2_with fail
 refine (valid_yes _ _ _ H.out).mono ?_
 rintro _ w1 ⟨rfl, hb⟩
 have hB1 : Below w.heap.size w w1 := ((((((Below.refl _ w).alloc (Nat.le_refl _) _).alloc (by simp) _).alloc (by simp; omega) _).alloc (by simp; omega) _).alloc (by simp; omega) _).trans (hb.mono (by simp; omega))
 have hz : w.heap.size + 5 <= w1.heap.size := by have := hb.size; simp at this; omega
 have hbx : ∀ j, j < 5 -> w1.heap[w.heap.size + j]? = (((((w.alloc (Obj.cells #[ptrV bt] 138)).alloc (Obj.cells #[.int .i64 a, .int .i64 l, .int .i64 n] 103)).alloc (Obj.cells #[.int .i64 a, .int .i64 l, .int .i64 n] 103)).alloc (Obj.cells #[.int .i64 a, .int .i64 l] 65)).alloc (Obj.cells #[.int .i64 a, .int .i64 l] 65)).heap[w.heap.size + j]? := fun j hj => hb.block (w.heap.size + j) (by simp; omega)
 obtain ⟨q0, q1, q2⟩ := five_blocks w (Obj.cells #[ptrV bt] 138) (Obj.cells #[.int .i64 a, .int .i64 l, .int .i64 n] 103) (Obj.cells #[.int .i64 a, .int .i64 l] 65)
 have b0 := (hbx 0 (by omega)).trans q0
 have b1 := (hbx 1 (by omega)).trans q1
 have b2 := (hbx 4 (by omega)).trans q2
 have k0 : w1.cell? ⟨w.heap.size, 0, none⟩ = some (ptrV bt) := by simp only [World.cell?]; rw [show w.heap.size = w.heap.size + 0 from rfl, b0]; rfl
 have k1 : w1.cell? ⟨w.heap.size + 1, 2, none⟩ = some (.int .i64 n) := by simp only [World.cell?]; rw [b1]; rfl
 have k2 : w1.cell? ⟨w.heap.size + 1 + 1 + 1 + 1, 0, none⟩ = some (.int .i64 a) := by simp only [World.cell?]; rw [show w.heap.size + 1 + 1 + 1 + 1 = w.heap.size + 4 from rfl, b2]; rfl
 have k3 : w1.cell? ⟨w.heap.size + 1 + 1 + 1 + 1, 1, none⟩ = some (.int .i64 l) := by simp only [World.cell?]; rw [show w.heap.size + 1 + 1 + 1 + 1 = w.heap.size + 4 from rfl, b2]; rfl
 have k4 : w1.cell? ⟨bt, 0, none⟩ = some e := (hB1.cell (p := ⟨bt, 0, none⟩) lbt).trans c0
 have z0 : w.heap.size < w1.heap.size := by omega
 have z1 : w.heap.size + 1 < w1.heap.size := by omega
 have z2 : w.heap.size + 1 + 1 + 1 + 1 < w1.heap.size := by omega
 have zb : bt < w1.heap.size := by omega
 have HE1 := hide (HE.out.later hB1)
 have nwz : w1.heap.size ∉ F := fun hk => by have := hFl _ hk; omega
 have ne0 : ¬ (w1.heap.size = w.heap.size) := by omega
 have ne1 : ¬ (w1.heap.size = w.heap.size + 1) := by omega
 have ne2 : ¬ (w1.heap.size = w.heap.size + 1 + 1 + 1 + 1) := by omega
 have ne3 : ¬ (w1.heap.size = bt) := by omega
 have ne4 : ¬ (w.heap.size = w1.heap.size) := by omega
 have ne5 : ¬ (w.heap.size + 1 = w1.heap.size) := by omega
 have ne6 : ¬ (w.heap.size + 1 + 1 + 1 + 1 = w1.heap.size) := by omega
 have ne7 : ¬ (bt = w1.heap.size) := by omega
 have HBX := hide (And.intro b0 (And.intro b1 b2))
 have HB1 := hide hB1
 have Hb := hide hb
 clear hb hbx q0 q1 q2 b0 b1 b2 hB1
 go_wp2_with (go_at_call 89; refine (isNext_yes _ _ hn).mono ?_; rintro _ w1 ⟨rfl, rfl⟩)
 go_cut [6] from 21 to 45 (fun s w' => ∃ bo, s = ptrV bo /\ AfterSet w w1 w' bt bo e (setE xs a l n) us F G a l n (orZ (getE xs a l)))
 case first =>
  go_region_held3 (fun w' => w'.cell? ⟨w.heap.size, 0, none⟩ = some (ptrV bt) /\ w'.cell? ⟨bt, 0, none⟩ = some e /\ w'.cell? ⟨w.heap.size + 1 + 1 + 1 + 1, 0, none⟩ = some (.int .i64 a) /\ w'.cell? ⟨w.heap.size + 1 + 1 + 1 + 1, 1, none⟩ = some (.int .i64 l) /\ w'.cell? ⟨w.heap.size + 1, 2, none⟩ = some (.int .i64 n)) (go_keep)
   (first
    | (go_at_call 90; refine (set_any e xs F a l n _ ?hE H.out HH.out).mono ?_; (case hE => exact HE1.out.later (by repeat (first | exact Below.refl _ _ | refine below_drewN ?_ _ | refine Below.drew ?_ | refine Below.trans ?_ (Below.mono (by assumption) ?_) | refine Below.alloc ?_ ?_ _ | refine Below.setCell ?_ ?_ _ | omega | (simp; omega) | simp))); rintro _ w2 ⟨hF2, hO, rfl⟩; (have zs : w1.heap.size <= w2.heap.size := by have := hO.size; simp at this; omega); (have g0 : ∀ o, w2.cell? ⟨w.heap.size, o, none⟩ = w1.cell? ⟨w.heap.size, o, none⟩ := fun o => (hO.cell (by simp; omega) nw0).trans (by simp [go_sem, z0])); (have g1 : ∀ o, w2.cell? ⟨w.heap.size + 1, o, none⟩ = w1.cell? ⟨w.heap.size + 1, o, none⟩ := fun o => (hO.cell (by simp; omega) nw1).trans (by simp [go_sem, z1])); (have g2 : ∀ o, w2.cell? ⟨w.heap.size + 1 + 1 + 1 + 1, o, none⟩ = w1.cell? ⟨w.heap.size + 1 + 1 + 1 + 1, o, none⟩ := fun o => (hO.cell (by simp; omega) nw2).trans (by simp [go_sem, z2])); (have g3 : ∀ o, w2.cell? ⟨bt, o, none⟩ = w1.cell? ⟨bt, o, none⟩ := fun o => (hO.cell (by simp; omega) nbt).trans (by simp [go_sem, zb])); (have y0 : w.heap.size < w2.heap.size := by omega); (have y1 : w.heap.size + 1 < w2.heap.size := by omega); (have y2 : w.heap.size + 1 + 1 + 1 + 1 < w2.heap.size := by omega); (have y3 : bt < w2.heap.size := by omega); (try (have g4 := (old_box hO nwz).1)); (try (have g5 := (old_box hO nwz).2))))
  all_goals
   first
    | (have fin := hide (after_alloc (old := orZ (getE xs a l)) HB1.out HBX.out HB.out HD.out hFl hF2 hO))
    | (have fin := hide (after_store (old := orZ (getE xs a l)) HB1.out HBX.out HB.out HD.out hFl nwz hF2 hO))
   clear hF2 hO
   go_wp2_with fail
   go_meet
   exact ⟨_, rfl, fin.out⟩
 case rest =>
  obtain ⟨bo, rfl, hA⟩ := hcut
  obtain ⟨v', fs', Gc', gbt, grow, gclo, gbG, gvG, gGe⟩ := hA.bat
  have k0 : wc.cell? ⟨w.heap.size, 0, none⟩ = some (ptrV bt) := by simp only [World.cell?]; rw [show w.heap.size = w.heap.size + 0 from rfl, hA.b0]; rfl
  have k1 : wc.cell? ⟨w.heap.size + 1, 2, none⟩ = some (.int .i64 n) := by simp only [World.cell?]; rw [hA.b1]; rfl
  have k2 : wc.cell? ⟨bt, 1, none⟩ = some v' := by simp only [World.cell?]; rw [gbt]; rfl
  have lbt' := (Array.getElem?_eq_some_iff.1 gbt).1
  have lb0 : w.heap.size < wc.heap.size := (Array.getElem?_eq_some_iff.1 hA.b0).1
  obtain ⟨g, cap, w4, hr, hrow4, hg4, hfr4⟩ := append_clo (w := wc) (104) v' us.length fs' (.func (.func 91) #[] #[ptrV w.heap.size, ptrV (w.heap.size + 1 + 1 + 1 + 1), ptrV bo]) rfl grow (by omega)
  have nb0 : ∀ k, v'.ownBlock = some k -> k < wc.heap.size := grow.lt
  have m0 : w4.cell? ⟨w.heap.size, 0, none⟩ = some (ptrV bt) := by
   refine (hg4.cell_far ⟨w.heap.size, 0, none⟩ (by simp; omega) ?_).trans (by simp [go_sem, lb0, k0])
   intro hk
   have : w.heap.size ∈ G := by rw [gGe]; simp [<- hk]
   have := hA.wl _ this
   omega
  have m1 : w4.cell? ⟨bt, 1, none⟩ = some v' := by
   refine (hg4.cell_far ⟨bt, 1, none⟩ (by simp; omega) ?_).trans (by simp [go_sem, lbt', k2])
   intro hk
   exact (gvG _ hk.symm).1 rfl
  have m2 : w4.frozen? ⟨bt, 1, none⟩ = false := by
   refine (hg4.frozen_far ⟨bt, 1, none⟩ (by simp; omega) ?_).trans ?_
   ·intro hk
    exact (gvG _ hk.symm).1 rfl
   ·rw [World.frozen?_drew]
    simp only [World.frozen?]
    rw [Below.heap_alloc wc _ bt lbt', gbt]
    rfl
  have HA := hide hA
  have HR4 := hide hrow4
  have HG4 := hide hg4
  have HGC := hide gclo
  have HR := hide hr
  clear hA hrow4 hg4 gclo hr grow hrow hclo
  go_wp2
  go_region_law (refine step_appendB rfl _ _ 104 104 rfl _ _ (by simp [Act.eval]) (by simp [Act.eval]) _ _ HR.out ?_)
  all_goals
   have fin := hide (pushed HA.out gbt HGC.out gbG gvG gGe nb0 HR4.out HG4.out hfr4)
   clear hfr4 m0 m1 m2 k0 k1 k2 gbt
   go_wp2
   go_ret
   exact ⟨fin.out.1, fin.out.2, rfl⟩
end Go.Proofs.YtglbamalagacgaaGreat

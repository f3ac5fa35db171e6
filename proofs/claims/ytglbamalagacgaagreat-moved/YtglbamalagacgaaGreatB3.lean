import Derived.Test.YtglbamalagacgaaGreatB2
import Derived.Test.YtglbamalagacgaaGreatL2
namespace Go.Proofs.YtglbamalagacgaaGreat
open Go.RowKit Go.Shelf
set_option maxHeartbeats 1000000 in
theorem change_take (bt : Nat) (e : Value) (us : List Ud) (G : List Nat) (xs : List Ent) (F : List Nat) (a l : Int) (w : World) (h : isPfx a l = true) (hb0 : BatchF w bt e us G) (hE : EngF w e xs F) (hd : Disj F G) (hus : us.length <= 100) (ho : (orZ (getE xs a l) == 0) = false) :
  Calls Tryz.prog 51 #[ptrV bt, chgV a l 0] w fun r w' => (∃ F' G', EngF w' e (setE xs a l 0) F' /\ BatchF w' bt e (us ++ [⟨a, l, orZ (getE xs a l)⟩]) G' /\ NewF w F F' /\ NewF w G G' /\ Disj F' G') /\ Only (F ++ G) w w' /\ r = .returned (.int .i64 0) := by
 have H := hide h
 have hEl := hE.lt
 have hGl := hb0.lt
 have hFl : ∀ k ∈ F, k < w.heap.size := hE.lt
 have HB := hide hb0
 have HE := hide hE
 have HD := hide hd
 obtain ⟨v, fs, Gc, hbt, hrow, hclo, hbG, hvG, hGe⟩ := hb0
 have lbt := (Array.getElem?_eq_some_iff.1 hbt).1
 have nbt : bt ∉ F := fun hk => hd _ hk (by rw [hGe]; simp)
 have c0 : w.cell? ⟨bt, 0, none⟩ = some e := by simp [World.cell?, hbt]
 have nw : ∀ j, w.heap.size + j ∉ F := fun j hk => by have := hFl _ hk; omega
 have nw0 := nw 0
 have nw1 := nw 1
 have nw2 := nw 4
 clear h hE hd
 go_enter Tryz.func51, Tryz.ntmps51
 go_wp2_with fail
 refine (prefixOf_any _ _ _ _).mono ?_
 rintro _ w0 ⟨rfl, rfl⟩
 go_wp2_with fail
 refine (valid_yes _ _ _ H.out).mono ?_
 rintro _ w1 ⟨rfl, hb⟩
 have hB1 : Below w.heap.size w w1 := ((((((Below.refl _ w).alloc (Nat.le_refl _) _).alloc (by simp) _).alloc (by simp; omega) _).alloc (by simp; omega) _).alloc (by simp; omega) _).trans (hb.mono (by simp; omega))
 have hz : w.heap.size + 5 <= w1.heap.size := by have := hb.size; simp at this; omega
 have hbx : ∀ j, j < 5 -> w1.heap[w.heap.size + j]? = (((((w.alloc (Obj.cells #[ptrV bt] 138)).alloc (Obj.cells #[.int .i64 a, .int .i64 l, .int .i64 0] 103)).alloc (Obj.cells #[.int .i64 a, .int .i64 l, .int .i64 0] 103)).alloc (Obj.cells #[.int .i64 a, .int .i64 l] 65)).alloc (Obj.cells #[.int .i64 a, .int .i64 l] 65)).heap[w.heap.size + j]? := fun j hj => hb.block (w.heap.size + j) (by simp; omega)
 obtain ⟨q0, q1, q2⟩ := five_blocks w (Obj.cells #[ptrV bt] 138) (Obj.cells #[.int .i64 a, .int .i64 l, .int .i64 0] 103) (Obj.cells #[.int .i64 a, .int .i64 l] 65)
 have b0 := (hbx 0 (by omega)).trans q0
 have b1 := (hbx 1 (by omega)).trans q1
 have b2 := (hbx 4 (by omega)).trans q2
 have k0 : w1.cell? ⟨w.heap.size, 0, none⟩ = some (ptrV bt) := by simp only [World.cell?]; rw [show w.heap.size = w.heap.size + 0 from rfl, b0]; rfl
 have k1 : w1.cell? ⟨w.heap.size + 1, 2, none⟩ = some (.int .i64 0) := by simp only [World.cell?]; rw [b1]; rfl
 have k2 : w1.cell? ⟨w.heap.size + 1 + 1 + 1 + 1, 0, none⟩ = some (.int .i64 a) := by simp only [World.cell?]; rw [show w.heap.size + 1 + 1 + 1 + 1 = w.heap.size + 4 from rfl, b2]; rfl
 have k3 : w1.cell? ⟨w.heap.size + 1 + 1 + 1 + 1, 1, none⟩ = some (.int .i64 l) := by simp only [World.cell?]; rw [show w.heap.size + 1 + 1 + 1 + 1 = w.heap.size + 4 from rfl, b2]; rfl
 have k4 : w1.cell? ⟨bt, 0, none⟩ = some e := (hB1.cell (p := ⟨bt, 0, none⟩) lbt).trans c0
 have z0 : w.heap.size < w1.heap.size := by omega
 have z1 : w.heap.size + 1 < w1.heap.size := by omega
 have z2 : w.heap.size + 1 + 1 + 1 + 1 < w1.heap.size := by omega
 have zb : bt < w1.heap.size := by omega
 have HE1 := hide (HE.out.later hB1)
 have nwz : w1.heap.size ∉ F := fun hk => by have := hFl _ hk; omega
 have ne0 : ¬ (w1.heap.size = w.heap.size) := by omega
 have ne1 : ¬ (w1.heap.size = w.heap.size + 1) := by omega
 have ne2 : ¬ (w1.heap.size = w.heap.size + 1 + 1 + 1 + 1) := by omega
 have ne3 : ¬ (w1.heap.size = bt) := by omega
 have ne4 : ¬ (w.heap.size = w1.heap.size) := by omega
 have ne5 : ¬ (w.heap.size + 1 = w1.heap.size) := by omega
 have ne6 : ¬ (w.heap.size + 1 + 1 + 1 + 1 = w1.heap.size) := by omega
 have ne7 : ¬ (bt = w1.heap.size) := by omega
 have HBX := hide (And.intro b0 (And.intro b1 b2))
 have HB1 := hide hB1
 have Hb := hide hb
 clear hb hbx q0 q1 q2 b0 b1 b2 hB1
 go_wp2
 go_cut [6] from 21 to 45 (fun s w' => ∃ bo, s = ptrV bo /\ AfterSet w w1 w' bt bo e (setE xs a l 0) us F G a l 0 (orZ (getE xs a l)))
 case first =>
  go_region_held3 (fun w' => w'.cell? ⟨w.heap.size, 0, none⟩ = some (ptrV bt) /\ w'.cell? ⟨bt, 0, none⟩ = some e /\ w'.cell? ⟨w.heap.size + 1 + 1 + 1 + 1, 0, none⟩ = some (.int .i64 a) /\ w'.cell? ⟨w.heap.size + 1 + 1 + 1 + 1, 1, none⟩ = some (.int .i64 l) /\ w'.cell? ⟨w.heap.size + 1, 2, none⟩ = some (.int .i64 0)) (go_keep)
   (first
    | (go_at_call 90; refine (set_any e xs F a l 0 _ ?hE H.out (.inl rfl)).mono ?_; (case hE => exact HE1.out.later (by repeat (first | exact Below.refl _ _ | refine below_drewN ?_ _ | refine Below.drew ?_ | refine Below.trans ?_ (Below.mono (by assumption) ?_) | refine Below.alloc ?_ ?_ _ | refine Below.setCell ?_ ?_ _ | omega | (simp; omega) | simp))); rintro _ w2 ⟨hF2, hO, rfl⟩; (have zs : w1.heap.size <= w2.heap.size := by have := hO.size; simp at this; omega); (have g0 : ∀ o, w2.cell? ⟨w.heap.size, o, none⟩ = w1.cell? ⟨w.heap.size, o, none⟩ := fun o => (hO.cell (by simp; omega) nw0).trans (by simp [go_sem, z0])); (have g1 : ∀ o, w2.cell? ⟨w.heap.size + 1, o, none⟩ = w1.cell? ⟨w.heap.size + 1, o, none⟩ := fun o => (hO.cell (by simp; omega) nw1).trans (by simp [go_sem, z1])); (have g2 : ∀ o, w2.cell? ⟨w.heap.size + 1 + 1 + 1 + 1, o, none⟩ = w1.cell? ⟨w.heap.size + 1 + 1 + 1 + 1, o, none⟩ := fun o => (hO.cell (by simp; omega) nw2).trans (by simp [go_sem, z2])); (have g3 : ∀ o, w2.cell? ⟨bt, o, none⟩ = w1.cell? ⟨bt, o, none⟩ := fun o => (hO.cell (by simp; omega) nbt).trans (by simp [go_sem, zb])); (have y0 : w.heap.size < w2.heap.size := by omega); (have y1 : w.heap.size + 1 < w2.heap.size := by omega); (have y2 : w.heap.size + 1 + 1 + 1 + 1 < w2.heap.size := by omega); (have y3 : bt < w2.heap.size := by omega); (try (have g4 := (old_box hO nwz).1)); (try (have g5 := (old_box hO nwz).2))))
  all_goals
   first
    | (have fin := hide (after_alloc (old := orZ (getE xs a l)) HB1.out HBX.out HB.out HD.out hFl hF2 hO))
    | (have fin := hide (after_store (old := orZ (getE xs a l)) HB1.out HBX.out HB.out HD.out hFl nwz hF2 hO))
   clear hF2 hO
   go_wp2_with fail
   go_meet
   exact ⟨_, rfl, fin.out⟩
 case rest =>
  obtain ⟨bo, rfl, hA⟩ := hcut
  obtain ⟨v', fs', Gc', gbt, grow, gclo, gbG, gvG, gGe⟩ := hA.bat
  have k0 : wc.cell? ⟨w.heap.size, 0, none⟩ = some (ptrV bt) := by simp only [World.cell?]; rw [show w.heap.size = w.heap.size + 0 from rfl, hA.b0]; rfl
  have k1 : wc.cell? ⟨w.heap.size + 1, 2, none⟩ = some (.int .i64 0) := by simp only [World.cell?]; rw [hA.b1]; rfl
  have k2 : wc.cell? ⟨bt, 1, none⟩ = some v' := by simp only [World.cell?]; rw [gbt]; rfl
  have k3 : wc.cell? ⟨bo, 0, none⟩ = some (.int .i64 (orZ (getE xs a l))) := by simp only [World.cell?]; rw [hA.old]; rfl
  have lbt' := (Array.getElem?_eq_some_iff.1 gbt).1
  have lb0 : w.heap.size < wc.heap.size := (Array.getElem?_eq_some_iff.1 hA.b0).1
  obtain ⟨g, cap, w4, hr, hrow4, hg4, hfr4⟩ := append_clo (w := wc) (104) v' us.length fs' (.func (.func 91) #[] #[ptrV w.heap.size, ptrV (w.heap.size + 1 + 1 + 1 + 1), ptrV bo]) rfl grow (by omega)
  have nb0 : ∀ k, v'.ownBlock = some k -> k < wc.heap.size := grow.lt
  have m0 : w4.cell? ⟨w.heap.size, 0, none⟩ = some (ptrV bt) := by
   refine (hg4.cell_far ⟨w.heap.size, 0, none⟩ (by simp; omega) ?_).trans (by simp [go_sem, lb0, k0])
   intro hk
   have : w.heap.size ∈ G := by rw [gGe]; simp [<- hk]
   have := hA.wl _ this
   omega
  have m1 : w4.cell? ⟨bt, 1, none⟩ = some v' := by
   refine (hg4.cell_far ⟨bt, 1, none⟩ (by simp; omega) ?_).trans (by simp [go_sem, lbt', k2])
   intro hk
   exact (gvG _ hk.symm).1 rfl
  have m2 : w4.frozen? ⟨bt, 1, none⟩ = false := by
   refine (hg4.frozen_far ⟨bt, 1, none⟩ (by simp; omega) ?_).trans ?_
   ·intro hk
    exact (gvG _ hk.symm).1 rfl
   ·rw [World.frozen?_drew]
    simp only [World.frozen?]
    rw [Below.heap_alloc wc _ bt lbt', gbt]
    rfl
  have HA := hide hA
  have HR4 := hide hrow4
  have HG4 := hide hg4
  have HGC := hide gclo
  have HR := hide hr
  clear hA hrow4 hg4 gclo hr grow hrow hclo
  go_wp2
  go_region_law (refine step_appendB rfl _ _ 104 104 rfl _ _ (by simp [Act.eval]) (by simp [Act.eval]) _ _ HR.out ?_)
  all_goals
   have fin := hide (pushed HA.out gbt HGC.out gbG gvG gGe nb0 HR4.out HG4.out hfr4)
   clear hfr4 m0 m1 m2 k0 k1 k2 k3 gbt
   go_wp2
   go_ret
   exact ⟨fin.out.1, fin.out.2, rfl⟩
end Go.Proofs.YtglbamalagacgaaGreat

namespace Go.Proofs.YtglbamalagacgaaGreat
open Go.RowKit Go.Shelf
def chgE (xs : List Ent) (a l n : Int) : Int := if isPfx a l = false then 2 else if n < 0 ∨ 255 < n then 3 else if n = 0 /\ getE xs a l = none then 5 else 0
theorem tryX_cons (x : Chg) (cs : List Chg) (xs : List Ent) (i : Nat) : tryX (x :: cs) xs i = if chgE xs x.a x.l x.n = 0 then tryX cs (setE xs x.a x.l x.n) (i + 1) else (xs, i, chgE xs x.a x.l x.n) := by
 rw [tryX]
 unfold chgE
 by_cases h1 : isPfx x.a x.l = false
 ·rw [if_pos h1, if_pos h1]; simp
 rw [if_neg h1, if_neg h1]
 by_cases h2 : x.n < 0 ∨ 255 < x.n
 ·rw [if_pos h2, if_pos h2]; simp
 rw [if_neg h2, if_neg h2]
 by_cases h3 : x.n = 0 /\ getE xs x.a x.l = none
 ·rw [if_pos h3, if_pos h3]; simp
 ·rw [if_neg h3, if_neg h3]; simp
def ChgPost (bt : Nat) (ve : Value) (us : List Ud) (G : List Nat) (xs : List Ent) (F : List Nat) (a l n : Int) (w : World) (r : Ending) (w' : World) : Prop :=
 r = .returned (.int .i64 (chgE xs a l n)) /\ ∃ F' G' us', EngF w' ve (if chgE xs a l n = 0 then setE xs a l n else xs) F' /\ BatchF w' bt ve us' G' /\ NewF w F F' /\ NewF w G G' /\ Disj F' G' /\ Only (F ++ G) w w' /\ us'.length <= us.length + 1 ∧
  (∀ x0, back xs us = x0 -> back (if chgE xs a l n = 0 then setE xs a l n else xs) us' = x0) /\ ((∀ u ∈ us, UdOk u) -> ∀ u ∈ us', UdOk u)
theorem old_ok {xs : List Ent} {a l : Int} (ho : ∀ x ∈ xs, okE x) : orZ (getE xs a l) = 0 ∨ okE ⟨a, l, orZ (getE xs a l)⟩ := by
 cases hg : getE xs a l with
 | none => exact .inl rfl
 | some v =>
  obtain ⟨y, h1, rfl, rfl, rfl⟩ := getE_mem hg
  exact .inr (ho y h1)
theorem change_any (bt : Nat) (ve : Value) (us : List Ud) (G : List Nat) (xs : List Ent) (F : List Nat) (a l n : Int) (w : World) (hb : BatchF w bt ve us G) (hE : EngF w ve xs F) (hd : Disj F G) (hus : us.length <= 100) :
  Calls Tryz.prog 51 #[ptrV bt, chgV a l n] w (ChgPost bt ve us G xs F a l n w) := by
 have hlt : ∀ k ∈ G, k < w.heap.size := hb.lt
 by_cases h1 : isPfx a l = false
 ·have hc : chgE xs a l n = 2 := by unfold chgE; rw [if_pos h1]
  refine (change_pfx bt a l n w h1).mono ?_
  rintro r w' ⟨hB, rfl⟩
  unfold ChgPost
  rw [hc]
  exact ⟨rfl, F, G, us, hE.later hB, hb.later hB, NewF.refl _ _, NewF.refl _ _, hd, Only.of_below _ hB, by omega, fun _ h => h, fun h => h⟩
 have hp : isPfx a l = true := by simpa using h1
 by_cases h2 : n < 0 ∨ 255 < n
 ·have hc : chgE xs a l n = 3 := by unfold chgE; rw [if_neg h1, if_pos h2]
  refine (change_next bt a l n w hp h2).mono ?_
  rintro r w' ⟨hB, rfl⟩
  unfold ChgPost
  rw [hc]
  exact ⟨rfl, F, G, us, hE.later hB, hb.later hB, NewF.refl _ _, NewF.refl _ _, hd, Only.of_below _ hB, by omega, fun _ h => h, fun h => h⟩
 by_cases h3 : n = 0 /\ getE xs a l = none
 ·have hc : chgE xs a l n = 5 := by unfold chgE; rw [if_neg h1, if_neg h2, if_pos h3]
  obtain ⟨rfl, hg⟩ := h3
  refine (change_none bt ve us G xs F a l w hp hb hE hd hg).mono ?_
  rintro r w' ⟨⟨F', h4, h5⟩, hO, rfl⟩
  unfold ChgPost
  rw [hc]
  exact ⟨rfl, F', G, us, h4, hb.kept fun k hk => hO.block k (hlt k hk) (fun hf => hd k hf hk), h5, NewF.refl _ _, hd.new h5 hlt, hO.mono (fun x hx _ => by simp [hx]), by omega, fun _ h => h, fun h => h⟩
 have hc : chgE xs a l n = 0 := by unfold chgE; rw [if_neg h1, if_neg h2, if_neg h3]
 have fin : ∀ (r : Ending) (w' : World), ((∃ F' G', EngF w' ve (setE xs a l n) F' /\ BatchF w' bt ve (us ++ [⟨a, l, orZ (getE xs a l)⟩]) G' /\ NewF w F F' /\ NewF w G G' /\ Disj F' G') /\ Only (F ++ G) w w' /\ r = .returned (.int .i64 0)) -> ChgPost bt ve us G xs F a l n w r w' := by
  rintro r w' ⟨⟨F', G', q1, q2, q3, q4, q5⟩, hO, rfl⟩
  unfold ChgPost
  rw [hc, if_pos rfl]
  refine ⟨rfl, F', G', _, q1, q2, q3, q4, q5, hO, by simp, fun x0 h => back_push hE.sorted hE.ok h, fun hu u hm => ?_⟩
  rcases List.mem_append.1 hm with hm | hm
  ·exact hu u hm
  ·simp at hm
   subst hm
   exact ⟨hp, old_ok hE.ok⟩
 by_cases hn : n = 0
 ·subst hn
  have hsm : (getE xs a l).isSome = true := by
   cases hg : getE xs a l with
   | none => exact absurd ⟨rfl, hg⟩ h3
   | some v => rfl
  exact (change_take bt ve us G xs F a l w hp hb hE hd hus (orZ_ok hE.ok hsm)).mono fin
 ·exact (change_lay bt ve us G xs F a l n w hp hb hE hd hus (by omega)).mono fin
end Go.Proofs.YtglbamalagacgaaGreat

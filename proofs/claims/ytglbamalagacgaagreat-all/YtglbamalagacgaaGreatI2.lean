import Derived.Test.YtglbamalagacgaaGreatA9
import Derived.Test.YtglbamalagacgaaGreatI1
import Derived.Deep.CutRange
namespace Go.Proofs.YtglbamalagacgaaGreat
open Go.RowKit Go.Shelf
attribute [local go_sem] Oper.semAt_some
set_option maxHeartbeats 400000 in
theorem pHalf_any (a l s : Int) (hs : s = 0 ∨ s = 1) (h0 : 0 <= l) (h8 : l < 8) (ha : 0 <= a) (ha' : a < 256) (w : World) :
  Calls Tryz.prog 200 #[pfxV a l, .int .i64 s] w fun e w' => e = .returned (pfxV (a + s * wid (l + 1)) (l + 1)) /\ Below w.heap.size w w' := by
 have hw0 := (wid_bd (l + 1)).1
 have hw1 := (wid_bd (l + 1)).2
 have e1 : IntKind.i64.wrap (l + 1) = l + 1 := by rw [IntKind.wrap_i64]; omega
 have e2 : IntKind.i64.wrap (s * wid (l + 1)) = s * wid (l + 1) := by rcases hs with rfl | rfl <;> (rw [IntKind.wrap_i64]; omega)
 have e3 : IntKind.i64.wrap (a + s * wid (l + 1)) = a + s * wid (l + 1) := by rcases hs with rfl | rfl <;> (rw [IntKind.wrap_i64]; omega)
 have hsz := hide (fun W => size_any (l + 1) (by omega) (by omega) W)
 generalize wid (l + 1) = wd at *
 go_enter Tryz.func200, Tryz.ntmps200
 go_wp2
 go_region_held3 (fun w' => w'.cell? ⟨w.heap.size, 0, none⟩ = some (.int .i64 a) /\ w'.cell? ⟨w.heap.size, 1, none⟩ = some (.int .i64 l)) (go_keep)
  ((go_at_call 101; refine (hsz.out _).mono ?_; rintro e w' ⟨rfl, rfl⟩))
 go_wp2
 exact bodyPost_ret (v := pfxV (a + s * wd) (l + 1)) (by simp [results, Tryz.results200, go_sem, *]) rfl ⟨rfl, (by repeat (first | exact Below.refl _ _ | refine below_drewN ?_ _ | refine Below.drew ?_ | refine Below.trans ?_ (Below.mono (by assumption) ?_) | refine Below.alloc ?_ ?_ _ | refine Below.setCell ?_ ?_ _ | omega | (simp; omega) | simp))⟩
theorem wpAnyH_pass {P : Program} {ops : Array Oper} {Q : Exit -> Act -> World -> Prop} {md : Region.Mode} {S : World -> Prop} {i : Nat} {oi : Oper} {fuel : Nat} {listed : Array Bool} {a : Act} {w : World} (hi : ops[i]? = some oi)
  (hs : Region.noSelect ops = true) (hf : Region.free md ops listed i = true) (hr : (Region.ready md ops listed).contains i = true)
  (hQ : ∀ c a w, Q (.panic c) (a.put oi.dst undef) w -> Q (.panic c) a w) (hw : Region.wanted oi (yielded ops a.tmps) = false) (hp : a.put oi.dst undef = a) (hS : S w)
  (h : wpAnyH P md ops Q S fuel (listed.setIfInBounds i true) a w) : wpAnyH P md ops Q S (fuel + 1) listed a w :=
 wpAnyH_take hi hs hf hr hQ (Or.inr ⟨hw, rfl⟩) hS (hp.symm ▸ h)
structure YEnv (p : Ent -> Prop) (N Bd l : Nat) (Own : World -> Nat -> Prop) (J Jx : List { x : Ent // p x } -> World -> Prop) : Prop where
 ol : ∀ s A, J s A -> ∀ k, Own A k -> k < A.heap.size
 js : ∀ s A B, J s A -> Soft Bd A B -> J s B /\ ∀ k, Own B k -> Own A k
 jx : ∀ s A B, Jx s A -> Soft Bd A B -> Jx s B
 y : ∀ pre x W1, J pre W1 -> pre.length < N -> YieldAt Fence.wide 4 Tryz.prog l (encR x) W1 fun e W' =>
   (e = .returned (.bool true) /\ J (pre ++ [x]) W' /\ KOwn Own W1 W' /\ Firm Bd W1 W') ∨ (e = .returned (.bool false) /\ Jx (pre ++ [x]) W' /\ Firm Bd W1 W')
def WkP (p : Ent -> Prop) (Own : World -> Nat -> Prop) (J Jx : List { x : Ent // p x } -> World -> Prop) (L : List Ent) (pre : List { x : Ent // p x }) (W1 : World) (e : Ending) (W' : World) : Prop :=
 ∃ bb : Bool, e = .returned (.bool bb) /\ ((bb = true /\ (∃ ys : List { x : Ent // p x }, ys.map (·.1) = L /\ J (pre ++ ys) W') /\ KOwn Own W1 W') ∨ (bb = false /\ ∃ ys : List { x : Ent // p x }, ys.map (·.1) <+: L /\ Jx (pre ++ ys) W'))
theorem KOwn.cell {Own : World -> Nat -> Prop} {W W' : World} (h : KOwn Own W W') {b : Nat} (hb : ¬ Own W b) {o : Nat} {v : Value} (hc : W.cell? ⟨b, o, none⟩ = some v) : W'.cell? ⟨b, o, none⟩ = some v := by
 obtain ⟨x, hx, hxc⟩ : ∃ x, W.heap[b]? = some x /\ x.isCells = true := by
  unfold World.cell? at hc
  cases h : W.heap[b]? with
  | none => simp only [h] at hc; cases hc
  | some o =>
   simp only [h] at hc
   cases o with
   | cells c t f => exact ⟨_, rfl, rfl⟩
   | _ => cases hc
 obtain ⟨h1, _⟩ := h.2 b x hx hxc hb
 exact (World.cell?_of_block (w := W) (a := ⟨b, o, none⟩) (h1.trans hx.symm)).trans hc
abbrev yV (l : Nat) : Value := .func (.yield l) #[] #[]
def own0 (a i n fb fm : Int) : List Ent := if n ≠ 0 /\ ¬ klt a i fb fm then [⟨a, i, n⟩] else []
abbrev boxW (W1 : World) (a i fb fm : Int) : World := (W1.alloc (pfxO a i)).alloc (pfxO fb fm)
def wkL (L0 L1 L2 : List Ent) (s : Int) : List Ent := L0 ++ (if 1 <= s then L1 else []) ++ (if 2 <= s then L2 else [])
def adO (o : Option Nat) : Option Addr := match o with
 | some b => some ⟨b, 0, none⟩
 | none => none
def Aft (p : Ent -> Prop) (Own : World -> Nat -> Prop) (J Jx : List { x : Ent // p x } -> World -> Prop) (L0 : List Ent) (pre : List { x : Ent // p x }) (w2 : World) (s : Value) (w' : World) : Prop :=
 ∃ bs : Bool, s = .bool bs /\ ((bs = false /\ (∃ ys : List { x : Ent // p x }, ys.map (·.1) = L0 /\ J (pre ++ ys) w') /\ KOwn Own w2 w') ∨ (bs = true /\ ∃ ys : List { x : Ent // p x }, ys.map (·.1) <+: L0 /\ Jx (pre ++ ys) w'))
set_option linter.unusedSimpArgs false in
set_option maxRecDepth 4000 in
set_option maxHeartbeats 4000000 in
theorem walk_node (p : Ent -> Prop) (N Bd l : Nat) (Own : World -> Nat -> Prop) (J Jx : List { x : Ent // p x } -> World -> Prop) (env : YEnv p N Bd l Own J Jx) (W1 : World) (b : Nat) (n : Int) (o1 o2 : Option Nat) (ty : TypeId) (a i fb fm : Int) (L1 L2 : List Ent) (pre : List { x : Ent // p x })
  (hb : W1.heap[b]? = some (.cells #[.int .i64 n, ptrO o1, ptrO o2] ty (0, 0))) (hbo : ¬ Own W1 b) (hJ : J pre W1) (hp : n ≠ 0 -> p ⟨a, i, n⟩)
  (hi0 : 0 <= i) (hi8 : i <= 8) (hi : i = 8 -> o1 = none /\ o2 = none) (ha0 : 0 <= a) (ha1 : a < 256)
  (hlen : pre.length + (own0 a i n fb fm ++ L1 ++ L2).length <= N) (hskip : a + wid i <= fb -> own0 a i n fb fm ++ L1 ++ L2 = []) (hl1 : o1 = none -> L1 = []) (hl2 : o2 = none -> L2 = [])
  (hc : ∀ (s : Int) (o : Option Nat) (L : List Ent), (s = 0 /\ o = o1 /\ L = L1) ∨ (s = 1 /\ o = o2 /\ L = L2) -> ∀ b1, o = some b1 -> ∀ W2 pre2, KOwn Own W1 W2 -> J pre2 W2 -> pre2.length + L.length <= N →
   Calls Tryz.prog 197 #[ptrV b1, pfxV (a + s * wid (i + 1)) (i + 1), pfxV fb fm, yV l] W2 (WkP p Own J Jx L pre2 W2)) :
  Calls Tryz.prog 197 #[ptrV b, pfxV a i, pfxV fb fm, yV l] W1 (WkP p Own J Jx (own0 a i n fb fm ++ L1 ++ L2) pre W1) := by
 have hbl := (Array.getElem?_eq_some_iff.1 hb).1
 have hBb : Below W1.heap.size W1 (boxW W1 a i fb fm) := ((Below.refl _ W1).alloc (Nat.le_refl _) _).alloc (by simp) _
 have hbh := hide (behind_any a i hi0 hi8 ha0 ha1)
 have m0 : W1.heap.size < W1.heap.size + 1 + 1 := by omega
 have n1 : b ≠ W1.heap.size := by omega
 have n2 : b ≠ W1.heap.size + 1 := by omega
 have ENV := hide env
 have HC := hide hc
 have HJ0 := hide hJ
 have HSK := hide hskip
 have HBO := hide hbo
 have HB := hide hb
 have Hp := hide hp
 have Hlen := hide hlen
 have Hl1 := hide hl1
 have Hl2 := hide hl2
 have Hi := hide hi
 clear env hc hJ hskip hbo hb hp hlen hl1 hl2 hi
 go_enter Tryz.func197, Tryz.ntmps197
 go_wp2
 go_region_held3 (fun w' => w'.cell? ⟨W1.heap.size, 0, none⟩ = some (.int .i64 a) /\ w'.cell? ⟨W1.heap.size, 1, none⟩ = some (.int .i64 i) /\ w'.cell? ⟨W1.heap.size + 1, 0, none⟩ = some (.int .i64 fb) /\ w'.cell? ⟨W1.heap.size + 1, 1, none⟩ = some (.int .i64 fm)) (go_keep)
  ((go_at_call 137; refine (hbh.out _).mono ?_; rintro e w2 ⟨rfl, hb2⟩; have hc2 := (bcell hb2).1))
 have hB2 : Below W1.heap.size W1 w2 := (hBb.drew).trans (hb2.mono (by simp; omega))
 obtain ⟨hJ2, hO2⟩ := ENV.out.js _ _ _ HJ0.out (Soft.of_below hB2)
 have hK2 : KOwn Own W1 w2 := KOwn.of_soft (B := 0) (Soft.of_below hB2) hO2
 have x0 : w2.cell? ⟨W1.heap.size, 0, none⟩ = some (.int .i64 a) := (hc2 _ _ (by simp; omega)).trans (by simp [go_sem])
 have x1 : w2.cell? ⟨W1.heap.size, 1, none⟩ = some (.int .i64 i) := (hc2 _ _ (by simp; omega)).trans (by simp [go_sem])
 have x2 : w2.cell? ⟨W1.heap.size + 1, 0, none⟩ = some (.int .i64 fb) := (hc2 _ _ (by simp)).trans (by simp [go_sem])
 have x3 : w2.cell? ⟨W1.heap.size + 1, 1, none⟩ = some (.int .i64 fm) := (hc2 _ _ (by simp)).trans (by simp [go_sem])
 have hz2 : W1.heap.size + 1 < w2.heap.size := by have := hb2.size; simp at this; omega
 have hz1 : W1.heap.size < w2.heap.size := by omega
 have hno : ∀ k, W1.heap.size <= k -> ¬ Own w2 k := fun k hk h => by have := ENV.out.ol _ _ HJ0.out _ (hO2 _ h); omega
 have hblk : w2.heap[b]? = some (.cells #[.int .i64 n, ptrO o1, ptrO o2] ty (0, 0)) := (hB2.block b hbl).trans HB.out
 have hbo2 : ¬ Own w2 b := fun h => HBO.out (hO2 _ h)
 have y0 : w2.cell? ⟨b, 0, none⟩ = some (.int .i64 n) := by simp [World.cell?, hblk]
 have hbl2 : b < w2.heap.size := by omega
 clear hc2 hb2 hBb hbh
 by_cases hsk : a + wid i <= fb
 ·have fin := hide (show WkP p Own J Jx (own0 a i n fb fm ++ L1 ++ L2) pre W1 (.returned (.bool true)) w2 from ⟨true, rfl, .inl ⟨rfl, ⟨[], by rw [HSK.out hsk]; rfl, by simpa using hJ2⟩, hK2⟩⟩)
  clear hJ2 hO2 hK2 hno hblk hbo2
  go_wp2
  go_ret
  exact fin.out
 ·have hsk' : ¬ (a + wid i <= fb) := hsk
  have HJ2 := hide hJ2
  have HK2 := hide hK2
  have HNO := hide hno
  have HBK := hide hblk
  have HBO2 := hide hbo2
  clear hJ2 hO2 hK2 hno hblk hbo2
  go_wp2
  go_cut [37] from 16 to 37 (fun s w' => Aft p Own J Jx (own0 a i n fb fm) pre w2 s w')
  case first =>
   have Hnil := hide (show ∀ W3, Below w2.heap.size w2 W3 -> own0 a i n fb fm = [] -> Aft p Own J Jx (own0 a i n fb fm) pre w2 (.bool false) W3 from fun W3 hB3 he => by
    obtain ⟨hJ3, hO3⟩ := ENV.out.js _ _ _ HJ2.out (Soft.of_below hB3)
    exact ⟨false, rfl, .inl ⟨rfl, ⟨[], by rw [he]; rfl, by simpa using hJ3⟩, KOwn.of_soft (B := 0) (Soft.of_below hB3) hO3⟩⟩)
   by_cases hn : n = 0
   ·have he : own0 a i n fb fm = [] := by unfold own0; rw [if_neg (by omega)]
    have HE := hide he
    subst hn
    clear he
    go_quiet (fail)
    go_wp2_with fail
    go_meet
    exact Hnil.out _ (by repeat (first | exact Below.refl _ _ | refine below_drewN ?_ _ | refine Below.drew ?_ | refine Below.trans ?_ (Below.mono (by assumption) ?_) | refine Below.alloc ?_ ?_ _ | refine Below.setCell ?_ ?_ _ | omega | (simp; omega) | simp)) HE.out
   ·have hn' : (n != 0) = true := by simpa using hn
    have hcmp := hide (fun W => compare_any a i fb fm W)
    by_cases hk : klt a i fb fm
    ·have he : own0 a i n fb fm = [] := by unfold own0; rw [if_neg (fun h => h.2 hk)]
     have HE := hide he
     have hlt : decide (0 <= cmpP a i fb fm) = false := by have := (cmpP_neg a i fb fm).2 hk; simp; omega
     clear he hk
     generalize cmpP a i fb fm = cm at *
     refine wp_region_held_drew (S := fun w' => w'.cell? ⟨b, 0, none⟩ = some (.int .i64 n) /\ w'.cell? ⟨W1.heap.size, 0, none⟩ = some (.int .i64 a) /\ w'.cell? ⟨W1.heap.size, 1, none⟩ = some (.int .i64 i) /\ w'.cell? ⟨W1.heap.size + 1, 0, none⟩ = some (.int .i64 fb) /\ w'.cell? ⟨W1.heap.size + 1, 1, none⟩ = some (.int .i64 fm)) (by kernel_rfl) ⟨y0, x0, x1, x2, x3⟩ (fun hHeld => ?_)
     refine wpAnyH_take (i := 0) (v := ?_) rfl (by kernel_rfl) (by kernel_rfl) (by kernel_rfl) (fun _ _ _ h => h) (Or.inl ⟨by kernel_rfl, ?_⟩) hHeld ?_
     rotate_left
     ·intro w hSw; (try dsimp only at hSw); go_simp; first | done | with_reducible rfl
     simp only [Act.put, List.setIfInBounds_toArray, List.set_cons_zero, List.set_cons_succ, List.getElem_toArray, List.getElem_cons_succ, List.getElem_cons_zero]
     refine wpAnyH_take (i := 1) (v := ?_) rfl (by kernel_rfl) (by kernel_rfl) (by kernel_rfl) (fun _ _ _ h => h) (Or.inl ⟨by kernel_rfl, ?_⟩) hHeld ?_
     rotate_left
     ·intro w hSw; (try dsimp only at hSw); go_simp; first | done | with_reducible rfl
     simp only [Act.put, List.setIfInBounds_toArray, List.set_cons_zero, List.set_cons_succ, List.getElem_toArray, List.getElem_cons_succ, List.getElem_cons_zero]
     refine wpAnyH_take (i := 2) (v := ?_) rfl (by kernel_rfl) (by kernel_rfl) (by kernel_rfl) (fun _ _ _ h => h) (Or.inl ⟨by kernel_rfl, ?_⟩) hHeld ?_
     rotate_left
     ·intro w hSw; (try dsimp only at hSw); go_simp; first | done | with_reducible rfl
     simp only [Act.put, List.setIfInBounds_toArray, List.set_cons_zero, List.set_cons_succ, List.getElem_toArray, List.getElem_cons_succ, List.getElem_cons_zero]
     refine wpAnyH_take (i := 3) (v := ?_) rfl (by kernel_rfl) (by kernel_rfl) (by kernel_rfl) (fun _ _ _ h => h) (Or.inl ⟨by kernel_rfl, ?_⟩) hHeld ?_
     rotate_left
     ·intro w hSw; (try dsimp only at hSw); go_simp; first | done | with_reducible rfl
     simp only [Act.put, List.setIfInBounds_toArray, List.set_cons_zero, List.set_cons_succ, List.getElem_toArray, List.getElem_cons_succ, List.getElem_cons_zero]
     refine wpAnyH_take (i := 4) (v := ?_) rfl (by kernel_rfl) (by kernel_rfl) (by kernel_rfl) (fun _ _ _ h => h) (Or.inl ⟨by kernel_rfl, ?_⟩) hHeld ?_
     rotate_left
     ·intro w hSw; (try dsimp only at hSw); go_simp; first | done | with_reducible rfl
     simp only [Act.put, List.setIfInBounds_toArray, List.set_cons_zero, List.set_cons_succ, List.getElem_toArray, List.getElem_cons_succ, List.getElem_cons_zero]
     refine wpAnyH_take (i := 5) (v := ?_) rfl (by kernel_rfl) (by kernel_rfl) (by kernel_rfl) (fun _ _ _ h => h) (Or.inl ⟨by kernel_rfl, ?_⟩) hHeld ?_
     rotate_left
     ·intro w hSw; (try dsimp only at hSw); go_simp; first | done | with_reducible rfl
     simp only [Act.put, List.setIfInBounds_toArray, List.set_cons_zero, List.set_cons_succ, List.getElem_toArray, List.getElem_cons_succ, List.getElem_cons_zero]
     refine wpAnyH_take (i := 6) (v := ?_) rfl (by kernel_rfl) (by kernel_rfl) (by kernel_rfl) (fun _ _ _ h => h) (Or.inl ⟨by kernel_rfl, ?_⟩) hHeld ?_
     rotate_left
     ·intro w hSw; (try dsimp only at hSw); go_simp; first | done | with_reducible rfl
     simp only [Act.put, List.setIfInBounds_toArray, List.set_cons_zero, List.set_cons_succ, List.getElem_toArray, List.getElem_cons_succ, List.getElem_cons_zero]
     refine wpAnyH_take (i := 7) (v := ?_) rfl (by kernel_rfl) (by kernel_rfl) (by kernel_rfl) (fun _ _ _ h => h) (Or.inl ⟨by kernel_rfl, ?_⟩) hHeld ?_
     rotate_left
     ·intro w hSw; (try dsimp only at hSw); go_simp; first | done | with_reducible rfl
     simp only [Act.put, List.setIfInBounds_toArray, List.set_cons_zero, List.set_cons_succ, List.getElem_toArray, List.getElem_cons_succ, List.getElem_cons_zero]
     refine wpAnyH_ready (rs := [8]) (by kernel_rfl) (by simp) ?_
     refine AllReadyH.cons rfl (fun K hK => ?_) AllReadyH.nil
     go_simp
     go_wp2_with fail
     refine (hcmp.out _).mono ?_
     rintro e w3 ⟨rfl, hb3⟩
     have hB3 : Below w2.heap.size w2 w3 := (Below.refl _ w2).drew.trans hb3
     refine hK.out _ _ ⟨(hB3.cell (p := ⟨b, 0, none⟩) hbl2).trans y0, (hB3.cell (p := ⟨W1.heap.size, 0, none⟩) hz1).trans x0, (hB3.cell (p := ⟨W1.heap.size, 1, none⟩) hz1).trans x1, (hB3.cell (p := ⟨W1.heap.size + 1, 0, none⟩) hz2).trans x2, (hB3.cell (p := ⟨W1.heap.size + 1, 1, none⟩) hz2).trans x3⟩ (fun hHeld => ?_)
     clear hK K
     try simp only [Act.put, List.setIfInBounds_toArray, List.set_cons_zero, List.set_cons_succ, List.getElem_toArray, List.getElem_cons_succ, List.getElem_cons_zero]
     refine wpAnyH_take (i := 9) (v := ?_) rfl (by kernel_rfl) (by kernel_rfl) (by kernel_rfl) (fun _ _ _ h => h) (Or.inl ⟨by kernel_rfl, ?_⟩) hHeld ?_
     rotate_left
     ·intro w hSw; (try dsimp only at hSw); go_simp; first | done | with_reducible rfl
     simp only [Act.put, List.setIfInBounds_toArray, List.set_cons_zero, List.set_cons_succ, List.getElem_toArray, List.getElem_cons_succ, List.getElem_cons_zero]
     refine wpAnyH_take (i := 10) (v := ?_) rfl (by kernel_rfl) (by kernel_rfl) (by kernel_rfl) (fun _ _ _ h => h) (Or.inl ⟨by kernel_rfl, ?_⟩) hHeld ?_
     rotate_left
     ·intro w hSw; (try dsimp only at hSw); go_simp; first | done | with_reducible rfl
     simp only [Act.put, List.setIfInBounds_toArray, List.set_cons_zero, List.set_cons_succ, List.getElem_toArray, List.getElem_cons_succ, List.getElem_cons_zero]
     refine wpAnyH_take (i := 11) (v := ?_) rfl (by kernel_rfl) (by kernel_rfl) (by kernel_rfl) (fun _ _ _ h => h) (Or.inl ⟨by kernel_rfl, ?_⟩) hHeld ?_
     rotate_left
     ·intro w hSw; (try dsimp only at hSw); go_simp; first | done | with_reducible rfl
     simp only [Act.put, List.setIfInBounds_toArray, List.set_cons_zero, List.set_cons_succ, List.getElem_toArray, List.getElem_cons_succ, List.getElem_cons_zero]
     refine wpAnyH_pass (i := 12) rfl (by kernel_rfl) (by kernel_rfl) (by kernel_rfl) (fun _ _ _ h => h) (by kernel_rfl) (by kernel_rfl) hHeld ?_
     refine wpAnyH_pass (i := 13) rfl (by kernel_rfl) (by kernel_rfl) (by kernel_rfl) (fun _ _ _ h => h) (by kernel_rfl) (by kernel_rfl) hHeld ?_
     refine wpAnyH_pass (i := 14) rfl (by kernel_rfl) (by kernel_rfl) (by kernel_rfl) (fun _ _ _ h => h) (by kernel_rfl) (by kernel_rfl) hHeld ?_
     refine wpAnyH_pass (i := 15) rfl (by kernel_rfl) (by kernel_rfl) (by kernel_rfl) (fun _ _ _ h => h) (by kernel_rfl) (by kernel_rfl) hHeld ?_
     refine wpAnyH_pass (i := 16) rfl (by kernel_rfl) (by kernel_rfl) (by kernel_rfl) (fun _ _ _ h => h) (by kernel_rfl) (by kernel_rfl) hHeld ?_
     refine wpAnyH_pass (i := 17) rfl (by kernel_rfl) (by kernel_rfl) (by kernel_rfl) (fun _ _ _ h => h) (by kernel_rfl) (by kernel_rfl) hHeld ?_
     refine wpAnyH_pass (i := 18) rfl (by kernel_rfl) (by kernel_rfl) (by kernel_rfl) (fun _ _ _ h => h) (by kernel_rfl) (by kernel_rfl) hHeld ?_
     refine wpAnyH_pass (i := 19) rfl (by kernel_rfl) (by kernel_rfl) (by kernel_rfl) (fun _ _ _ h => h) (by kernel_rfl) (by kernel_rfl) hHeld ?_
     refine wpAnyH_pass (i := 20) rfl (by kernel_rfl) (by kernel_rfl) (by kernel_rfl) (fun _ _ _ h => h) (by kernel_rfl) (by kernel_rfl) hHeld ?_
     refine wpAnyH_take (i := 21) (v := ?_) rfl (by kernel_rfl) (by kernel_rfl) (by kernel_rfl) (fun _ _ _ h => h) (Or.inl ⟨by kernel_rfl, ?_⟩) hHeld ?_
     rotate_left
     ·intro w hSw; (try dsimp only at hSw); go_simp; first | done | with_reducible rfl
     simp only [Act.put, List.setIfInBounds_toArray, List.set_cons_zero, List.set_cons_succ, List.getElem_toArray, List.getElem_cons_succ, List.getElem_cons_zero]
     refine wpAnyH_done (by kernel_rfl) ?_ _
     go_wp2_with fail
     go_meet
     exact Hnil.out _ hB3 HE.out
    ·have he : own0 a i n fb fm = [⟨a, i, n⟩] := by unfold own0; rw [if_pos ⟨hn, hk⟩]
     have HE := hide he
     have hge : 0 <= cmpP a i fb fm := by
      rcases Int.lt_or_le (cmpP a i fb fm) 0 with h | h
      ·exact absurd ((cmpP_neg a i fb fm).1 h) hk
      ·exact h
     have hge' : decide (0 <= cmpP a i fb fm) = true := by simpa using hge
     clear he hk hge
     generalize cmpP a i fb fm = cm at *
     have hro := hide (fun W => route_any a i n W)
     have hmx : Tryz.prog.follows .mixedOrders = true := by kernel_rfl
     refine (wpIn_wide (n := 5)).1 ?_
     gi_region_with_o (first
      | (refine ⟨trivial, ?_⟩; gi_at_call 121; refine (callsIn_wide.2 (hcmp.out _)).mono ?_; rintro e w3 ⟨rfl, hb3⟩; (have hB3 : Below w2.heap.size w2 w3 := (Below.refl _ w2).drew.trans hb3); (have u0 := (hB3.cell (p := ⟨b, 0, none⟩) hbl2).trans y0); (have u1 := (hB3.cell (p := ⟨W1.heap.size, 0, none⟩) hz1).trans x0); (have u2 := (hB3.cell (p := ⟨W1.heap.size, 1, none⟩) hz1).trans x1))
      | (refine ⟨trivial, ?_⟩; gi_at_call 123; refine (callsIn_wide.2 (hro.out _)).mono ?_; rintro e w5 ⟨rfl, hb5⟩; (have hB5 : Below w2.heap.size w2 w5 := hB3.trans (hb5.mono hB3.size)); (obtain ⟨hJ5, hO5⟩ := ENV.out.js _ _ _ HJ2.out (Soft.of_below hB5)); (obtain ⟨fn, tmps, assign, body, hy, hR0⟩ := ENV.out.y pre ⟨⟨a, i, n⟩, Hp.out hn⟩ w5 hJ5 (by have := Hlen.out; rw [HE.out] at this; simp at this; omega)); (have hR := hide (merge_round hR0)); clear hR0)
      | (refine RoundIn.mono hR.out ?_; rintro e W6 ⟨bb, rfl, h6⟩))
     all_goals
      have fin := hide (show Aft p Own J Jx (own0 a i n fb fm) pre w2 (.bool (!bb)) W6 from by
       have hK25 : KOwn Own w2 w5 := KOwn.of_soft (B := 0) (Soft.of_below hB5) hO5
       refine ⟨!bb, rfl, ?_⟩
       rcases h6.out with ⟨rfl, hJ6, hK6, _⟩ | ⟨rfl, hJx6, _⟩
       ·exact .inl ⟨rfl, ⟨[⟨⟨a, i, n⟩, Hp.out hn⟩], by rw [HE.out]; rfl, hJ6⟩, hK25.trans hK6⟩
       ·exact .inr ⟨rfl, [⟨⟨a, i, n⟩, Hp.out hn⟩], by rw [HE.out]; exact List.prefix_refl _, hJx6⟩)
      clear h6 hR hy hJ5 hO5 hB5 hb5
      go_wp2_with fail
      go_meet
      exact fin.out
  case rest =>
   obtain ⟨bs, rfl, hA⟩ := hcut
   rcases hA with ⟨rfl, ⟨ys0, hys0, hJ3⟩, hK3⟩ | ⟨rfl, ys0, hys0, hJx3⟩
   ·have hbw := (hK3.2 b _ HBK.out rfl HBO2.out).1
    have d1 : wc.cell? ⟨b, 1, none⟩ = some (ptrO o1) := by simp [World.cell?, hbw]
    have d2 : wc.cell? ⟨b, 2, none⟩ = some (ptrO o2) := by simp [World.cell?, hbw]
    have hbl3 := (Array.getElem?_eq_some_iff.1 hbw).1
    have H3 := hide (show ∃ ys : List { x : Ent // p x }, ys.map (·.1) = wkL (own0 a i n fb fm) L1 L2 0 /\ J (pre ++ ys) wc from ⟨ys0, by rw [hys0]; unfold wkL; simp, hJ3⟩)
    have HK3 := hide hK3
    have q1 : ptrO o1 = .pointer (adO o1) := by cases o1 <;> rfl
    have q2 : ptrO o2 = .pointer (adO o2) := by cases o2 <;> rfl
    rw [q1] at d1
    rw [q2] at d2
    clear hbw hK3 hJ3 hys0 q1 q2
    go_wp2
    go_loopw [42] (fun c wr => ∃ s : Int, (s = 0 ∨ s = 1 ∨ s = 2) /\ c = .int .i64 s /\ Hid (∃ ys : List { x : Ent // p x }, ys.map (·.1) = wkL (own0 a i n fb fm) L1 L2 s /\ J (pre ++ ys) wr) /\ Hid (KOwn Own w2 wr)) (fun c _ => 2 - (intOf c).toNat)
    case atStart => exact ⟨0, .inl rfl, rfl, H3, HK3⟩
    case round =>
     obtain ⟨s, hs2, rfl, HY, HKr⟩ := hrel
     rcases hs2 with rfl | rfl | rfl
     ·obtain ⟨ys, hys, hJr⟩ := HY.out
      have hz1r : W1.heap.size < wr.heap.size := Nat.lt_of_lt_of_le hz1 HKr.out.1
      have hz2r : W1.heap.size + 1 < wr.heap.size := Nat.lt_of_lt_of_le hz2 HKr.out.1
      have x0r := HKr.out.cell (HNO.out W1.heap.size (Nat.le_refl _)) x0
      have x1r := HKr.out.cell (HNO.out W1.heap.size (Nat.le_refl _)) x1
      have x2r := HKr.out.cell (HNO.out (W1.heap.size + 1) (by omega)) x2
      have x3r := HKr.out.cell (HNO.out (W1.heap.size + 1) (by omega)) x3
      rcases (show o1 = none ∨ ∃ b1, o1 = some b1 from by cases o1 <;> simp) with ho | ⟨b1, ho⟩
      ·skip
       have hLn := Hl1.out ho
       have he : adO o1 = none := by rw [ho]; rfl
       have hix : ∀ w, (Instr.index 168 (.agg #[.pointer (adO o1), .pointer (adO o2)]) (.int .i64 0)).run Tryz.prog w = .ok (.pointer none) w := fun w => by rw [idx0, he]
       have nxt := hide (fun (W : World) (hB : Below wr.heap.size wr W) => show (∃ ys : List { x : Ent // p x }, ys.map (·.1) = wkL (own0 a i n fb fm) L1 L2 (0 + 1) /\ J (pre ++ ys) W) /\ KOwn Own w2 W from by
        obtain ⟨hJ4, hO4⟩ := ENV.out.js _ _ _ hJr (Soft.of_below hB)
        exact ⟨⟨ys, by rw [hys]; unfold wkL; simp [hLn], hJ4⟩, HKr.out.trans (KOwn.of_soft (B := 0) (Soft.of_below hB) hO4)⟩)
       clear hJr hys hLn HY HKr x0r x1r x2r x3r he ho
       generalize adO o1 = P1 at *
       generalize adO o2 = P2 at *
       go_wp2
       go_quiet (fail)
       go_wp2
       go_roundw
       case rel => exact ⟨0 + 1, by omega, by simp, (nxt.out _ (by repeat (first | exact Below.refl _ _ | refine below_drewN ?_ _ | refine Below.drew ?_ | refine Below.trans ?_ (Below.mono (by assumption) ?_) | refine Below.alloc ?_ ?_ _ | refine Below.setCell ?_ ?_ _ | omega | (simp; omega) | simp))).1, (nxt.out _ (by repeat (first | exact Below.refl _ _ | refine below_drewN ?_ _ | refine Below.drew ?_ | refine Below.trans ?_ (Below.mono (by assumption) ?_) | refine Below.alloc ?_ ?_ _ | refine Below.setCell ?_ ?_ _ | omega | (simp; omega) | simp))).2⟩
       case measure => simp [intOf]
      ·skip
       have he : adO o1 = some ⟨b1, 0, none⟩ := by rw [ho]; rfl
       have hix : ∀ w, (Instr.index 168 (.agg #[.pointer (adO o1), .pointer (adO o2)]) (.int .i64 0)).run Tryz.prog w = .ok (ptrV b1) w := fun w => by rw [idx0, he]
       have hi8' : i < 8 := by
        rcases Int.lt_or_le i 8 with h | h
        ·exact h
        ·have := Hi.out (by omega); rw [ho] at this; exact absurd this.1 (by simp)
       have hhf := hide (fun W => pHalf_any a i 0 (.inl rfl) hi0 hi8' ha0 ha1 W)
       have hcs := hide (HC.out 0 (some b1) L1 (.inl ⟨rfl, ho.symm, rfl⟩) b1 rfl)
       have hlen1 : (pre ++ ys).length + L1.length <= N := by
        have h1 := Hlen.out
        have h2 := congrArg List.length hys
        rw [List.length_map] at h2
        unfold wkL at h2
        simp at h2 h1 ⊢
        omega
       have Hys := hide hys
       have HKW := hide (HK2.out.trans HKr.out)
       have Hl1 := hide hlen1
       have Hgo := hide (show ∀ (w5 W6 : World) (bb : Bool), Below wr.heap.size wr w5 -> ((bb = true /\ (∃ zs : List { x : Ent // p x }, zs.map (·.1) = L1 /\ J (pre ++ ys ++ zs) W6) /\ KOwn Own w5 W6) ∨ (bb = false /\ ∃ zs : List { x : Ent // p x }, zs.map (·.1) <+: L1 /\ Jx (pre ++ ys ++ zs) W6)) →
         (bb = true /\ (∃ us : List { x : Ent // p x }, us.map (·.1) = wkL (own0 a i n fb fm) L1 L2 (0 + 1) /\ J (pre ++ us) W6) /\ KOwn Own w2 W6) ∨ (bb = false /\ WkP p Own J Jx (own0 a i n fb fm ++ L1 ++ L2) pre W1 (.returned (.bool false)) W6) from by
        rintro w5 W6 bb hB5 (⟨hb, ⟨zs, hz, hJ6⟩, hK6⟩ | ⟨hb, zs, hz, hJx6⟩)
        ·obtain ⟨_, hO5⟩ := ENV.out.js _ _ _ hJr (Soft.of_below hB5)
         refine .inl ⟨hb, ⟨ys ++ zs, ?_, by rw [<- List.append_assoc]; exact hJ6⟩, HKr.out.trans ((KOwn.of_soft (B := 0) (Soft.of_below hB5) hO5).trans hK6)⟩
         rw [List.map_append, Hys.out, hz]; unfold wkL; simp
        ·refine .inr ⟨hb, false, rfl, .inr ⟨rfl, ys ++ zs, ?_, by rw [<- List.append_assoc]; exact hJx6⟩⟩
         rw [List.map_append, Hys.out]
         obtain ⟨tl, htl⟩ := hz
         unfold wkL
         exact ⟨tl ++ L2, by rw [<- htl]; simp⟩)
       have hwk := hide (fun (w5 : World) (hB5 : Below wr.heap.size wr w5) => hcs.out w5 (pre ++ ys) (HKW.out.trans (KOwn.of_soft (B := 0) (Soft.of_below hB5) (ENV.out.js _ _ _ hJr (Soft.of_below hB5)).2)) (ENV.out.js _ _ _ hJr (Soft.of_below hB5)).1 Hl1.out)
       obtain ⟨A, hA⟩ : ∃ A, a + 0 * wid (i + 1) = A := ⟨_, rfl⟩
       rw [hA] at hhf hwk
       clear hys HY ho hlen1 he hcs hJr HKr d1 d2 hA
       generalize adO o1 = P1 at *
       generalize adO o2 = P2 at *
       go_wp2
       refine wp_region_any (by kernel_rfl) ?_
       change wpAny _ _ _ _ _ _ _ (World.drew _)
       refine wpAny_take (i := 0) (v := ?_) rfl (by kernel_rfl) (by kernel_rfl) (by kernel_rfl) (fun _ _ _ h => h) (Or.inl ⟨by kernel_rfl, ?_⟩) ?_
       rotate_left
       ·intro w; go_simp; first | done | with_reducible rfl
       try simp only [Act.put, List.setIfInBounds_toArray, List.set_cons_zero, List.set_cons_succ, List.getElem_toArray, List.getElem_cons_succ, List.getElem_cons_zero]
       refine wpAny_take (i := 1) (v := ?_) rfl (by kernel_rfl) (by kernel_rfl) (by kernel_rfl) (fun _ _ _ h => h) (Or.inl ⟨by kernel_rfl, ?_⟩) ?_
       rotate_left
       ·intro w; go_simp; first | done | with_reducible rfl
       try simp only [Act.put, List.setIfInBounds_toArray, List.set_cons_zero, List.set_cons_succ, List.getElem_toArray, List.getElem_cons_succ, List.getElem_cons_zero]
       refine wpAny_take (i := 2) (v := ?_) rfl (by kernel_rfl) (by kernel_rfl) (by kernel_rfl) (fun _ _ _ h => h) (Or.inl ⟨by kernel_rfl, ?_⟩) ?_
       rotate_left
       ·intro w; go_simp; first | done | with_reducible rfl
       try simp only [Act.put, List.setIfInBounds_toArray, List.set_cons_zero, List.set_cons_succ, List.getElem_toArray, List.getElem_cons_succ, List.getElem_cons_zero]
       refine wpAny_take (i := 3) (v := ?_) rfl (by kernel_rfl) (by kernel_rfl) (by kernel_rfl) (fun _ _ _ h => h) (Or.inl ⟨by kernel_rfl, ?_⟩) ?_
       rotate_left
       ·intro w; go_simp; first | done | with_reducible rfl
       try simp only [Act.put, List.setIfInBounds_toArray, List.set_cons_zero, List.set_cons_succ, List.getElem_toArray, List.getElem_cons_succ, List.getElem_cons_zero]
       refine wpAny_take (i := 5) (v := ?_) rfl (by kernel_rfl) (by kernel_rfl) (by kernel_rfl) (fun _ _ _ h => h) (Or.inl ⟨by kernel_rfl, ?_⟩) ?_
       rotate_left
       ·intro w; go_simp; first | done | with_reducible rfl
       try simp only [Act.put, List.setIfInBounds_toArray, List.set_cons_zero, List.set_cons_succ, List.getElem_toArray, List.getElem_cons_succ, List.getElem_cons_zero]
       refine wpAny_take (i := 8) (v := ?_) rfl (by kernel_rfl) (by kernel_rfl) (by kernel_rfl) (fun _ _ _ h => h) (Or.inl ⟨by kernel_rfl, ?_⟩) ?_
       rotate_left
       ·intro w; go_simp; first | done | with_reducible rfl
       try simp only [Act.put, List.setIfInBounds_toArray, List.set_cons_zero, List.set_cons_succ, List.getElem_toArray, List.getElem_cons_succ, List.getElem_cons_zero]
       refine wpAny_ready (rs := [4, 7]) (by kernel_rfl) (by simp) ?_
       refine AllReady.cons rfl (fun K hK => ?_) (AllReady.cons rfl (fun K hK => ?_) AllReady.nil)
       ·go_simp
        refine hK _ _ ?_
        clear hK K
        try simp only [Act.put, List.setIfInBounds_toArray, List.set_cons_zero, List.set_cons_succ, List.getElem_toArray, List.getElem_cons_succ, List.getElem_cons_zero]
        refine wpAny_ready (rs := [6, 7]) (by kernel_rfl) (by simp) ?_
        refine AllReady.cons rfl (fun K hK => ?_) (AllReady.cons rfl (fun K hK => ?_) AllReady.nil)
        ·go_simp
         go_wp2_with fail
         refine (hhf.out _).mono ?_
         rintro e w5 ⟨rfl, hb5⟩
         have hB5 : Below wr.heap.size wr w5 := (Below.refl _ wr).drew.trans hb5
         have v2 := (hB5.cell (p := ⟨W1.heap.size + 1, 0, none⟩) hz2r).trans x2r
         have v3 := (hB5.cell (p := ⟨W1.heap.size + 1, 1, none⟩) hz2r).trans x3r
         refine hK _ _ ?_
         clear hK K
         try simp only [Act.put, List.setIfInBounds_toArray, List.set_cons_zero, List.set_cons_succ, List.getElem_toArray, List.getElem_cons_succ, List.getElem_cons_zero]
         refine wpAny_ready (rs := [7]) (by kernel_rfl) (by simp) ?_
         refine AllReady.cons rfl (fun K hK => ?_) AllReady.nil
         go_simp
         refine hK _ _ ?_
         clear hK K
         try simp only [Act.put, List.setIfInBounds_toArray, List.set_cons_zero, List.set_cons_succ, List.getElem_toArray, List.getElem_cons_succ, List.getElem_cons_zero]
         refine wpAny_ready (rs := [9]) (by kernel_rfl) (by simp) ?_
         refine AllReady.cons rfl (fun K hK => ?_) AllReady.nil
         go_simp
         go_wp2_with fail
         refine (hwk.out w5 hB5).mono ?_
         rintro e W6 ⟨bb, rfl, h6⟩
         have H6 := hide (Hgo.out w5 W6 bb hB5 h6)
         clear h6
         refine hK _ _ ?_
         clear hK K
         try simp only [Act.put, List.setIfInBounds_toArray, List.set_cons_zero, List.set_cons_succ, List.getElem_toArray, List.getElem_cons_succ, List.getElem_cons_zero]
         refine wpAny_take (i := 10) (v := ?_) rfl (by kernel_rfl) (by kernel_rfl) (by kernel_rfl) (fun _ _ _ h => h) (Or.inl ⟨by kernel_rfl, ?_⟩) ?_
         rotate_left
         ·intro w; go_simp; first | done | with_reducible rfl
         try simp only [Act.put, List.setIfInBounds_toArray, List.set_cons_zero, List.set_cons_succ, List.getElem_toArray, List.getElem_cons_succ, List.getElem_cons_zero]
         refine wpAny_take (i := 11) (v := ?_) rfl (by kernel_rfl) (by kernel_rfl) (by kernel_rfl) (fun _ _ _ h => h) (Or.inl ⟨by kernel_rfl, ?_⟩) ?_
         rotate_left
         ·intro w; go_simp; first | done | with_reducible rfl
         try simp only [Act.put, List.setIfInBounds_toArray, List.set_cons_zero, List.set_cons_succ, List.getElem_toArray, List.getElem_cons_succ, List.getElem_cons_zero]
         refine wpAny_done (by kernel_rfl) ?_ _
         rcases H6.out with ⟨rfl, hJ7, hK7⟩ | ⟨rfl, hW7⟩
         ·have H7 := hide hJ7
          have HK7 := hide hK7
          clear H6 hJ7 hK7 v2 v3 hb5 hB5 x0r x1r x2r x3r hwk Hgo hhf
          go_wp2
          go_roundw
          case rel => exact ⟨0 + 1, by omega, by simp, H7.out, HK7.out⟩
          case measure => simp [intOf]
         ·have fin := hide hW7
          clear H6 hW7 v2 v3 hb5 hB5 x0r x1r x2r x3r hwk Hgo hhf
          go_wp2
          go_ret
          exact fin.out
        ·go_simp
         refine hK _ _ ?_
         clear hK K
         try simp only [Act.put, List.setIfInBounds_toArray, List.set_cons_zero, List.set_cons_succ, List.getElem_toArray, List.getElem_cons_succ, List.getElem_cons_zero]
         refine wpAny_ready (rs := [6]) (by kernel_rfl) (by simp) ?_
         refine AllReady.cons rfl (fun K hK => ?_) AllReady.nil
         go_simp
         go_wp2_with fail
         refine (hhf.out _).mono ?_
         rintro e w5 ⟨rfl, hb5⟩
         have hB5 : Below wr.heap.size wr w5 := (Below.refl _ wr).drew.trans hb5
         have v2 := (hB5.cell (p := ⟨W1.heap.size + 1, 0, none⟩) hz2r).trans x2r
         have v3 := (hB5.cell (p := ⟨W1.heap.size + 1, 1, none⟩) hz2r).trans x3r
         refine hK _ _ ?_
         clear hK K
         try simp only [Act.put, List.setIfInBounds_toArray, List.set_cons_zero, List.set_cons_succ, List.getElem_toArray, List.getElem_cons_succ, List.getElem_cons_zero]
         refine wpAny_ready (rs := [9]) (by kernel_rfl) (by simp) ?_
         refine AllReady.cons rfl (fun K hK => ?_) AllReady.nil
         go_simp
         go_wp2_with fail
         refine (hwk.out w5 hB5).mono ?_
         rintro e W6 ⟨bb, rfl, h6⟩
         have H6 := hide (Hgo.out w5 W6 bb hB5 h6)
         clear h6
         refine hK _ _ ?_
         clear hK K
         try simp only [Act.put, List.setIfInBounds_toArray, List.set_cons_zero, List.set_cons_succ, List.getElem_toArray, List.getElem_cons_succ, List.getElem_cons_zero]
         refine wpAny_take (i := 10) (v := ?_) rfl (by kernel_rfl) (by kernel_rfl) (by kernel_rfl) (fun _ _ _ h => h) (Or.inl ⟨by kernel_rfl, ?_⟩) ?_
         rotate_left
         ·intro w; go_simp; first | done | with_reducible rfl
         try simp only [Act.put, List.setIfInBounds_toArray, List.set_cons_zero, List.set_cons_succ, List.getElem_toArray, List.getElem_cons_succ, List.getElem_cons_zero]
         refine wpAny_take (i := 11) (v := ?_) rfl (by kernel_rfl) (by kernel_rfl) (by kernel_rfl) (fun _ _ _ h => h) (Or.inl ⟨by kernel_rfl, ?_⟩) ?_
         rotate_left
         ·intro w; go_simp; first | done | with_reducible rfl
         try simp only [Act.put, List.setIfInBounds_toArray, List.set_cons_zero, List.set_cons_succ, List.getElem_toArray, List.getElem_cons_succ, List.getElem_cons_zero]
         refine wpAny_done (by kernel_rfl) ?_ _
         rcases H6.out with ⟨rfl, hJ7, hK7⟩ | ⟨rfl, hW7⟩
         ·have H7 := hide hJ7
          have HK7 := hide hK7
          clear H6 hJ7 hK7 v2 v3 hb5 hB5 x0r x1r x2r x3r hwk Hgo hhf
          go_wp2
          go_roundw
          case rel => exact ⟨0 + 1, by omega, by simp, H7.out, HK7.out⟩
          case measure => simp [intOf]
         ·have fin := hide hW7
          clear H6 hW7 v2 v3 hb5 hB5 x0r x1r x2r x3r hwk Hgo hhf
          go_wp2
          go_ret
          exact fin.out
       ·go_simp
        refine hK _ _ ?_
        clear hK K
        try simp only [Act.put, List.setIfInBounds_toArray, List.set_cons_zero, List.set_cons_succ, List.getElem_toArray, List.getElem_cons_succ, List.getElem_cons_zero]
        refine wpAny_ready (rs := [4]) (by kernel_rfl) (by simp) ?_
        refine AllReady.cons rfl (fun K hK => ?_) AllReady.nil
        go_simp
        refine hK _ _ ?_
        clear hK K
        try simp only [Act.put, List.setIfInBounds_toArray, List.set_cons_zero, List.set_cons_succ, List.getElem_toArray, List.getElem_cons_succ, List.getElem_cons_zero]
        refine wpAny_ready (rs := [6]) (by kernel_rfl) (by simp) ?_
        refine AllReady.cons rfl (fun K hK => ?_) AllReady.nil
        go_simp
        go_wp2_with fail
        refine (hhf.out _).mono ?_
        rintro e w5 ⟨rfl, hb5⟩
        have hB5 : Below wr.heap.size wr w5 := (Below.refl _ wr).drew.trans hb5
        have v2 := (hB5.cell (p := ⟨W1.heap.size + 1, 0, none⟩) hz2r).trans x2r
        have v3 := (hB5.cell (p := ⟨W1.heap.size + 1, 1, none⟩) hz2r).trans x3r
        refine hK _ _ ?_
        clear hK K
        try simp only [Act.put, List.setIfInBounds_toArray, List.set_cons_zero, List.set_cons_succ, List.getElem_toArray, List.getElem_cons_succ, List.getElem_cons_zero]
        refine wpAny_ready (rs := [9]) (by kernel_rfl) (by simp) ?_
        refine AllReady.cons rfl (fun K hK => ?_) AllReady.nil
        go_simp
        go_wp2_with fail
        refine (hwk.out w5 hB5).mono ?_
        rintro e W6 ⟨bb, rfl, h6⟩
        have H6 := hide (Hgo.out w5 W6 bb hB5 h6)
        clear h6
        refine hK _ _ ?_
        clear hK K
        try simp only [Act.put, List.setIfInBounds_toArray, List.set_cons_zero, List.set_cons_succ, List.getElem_toArray, List.getElem_cons_succ, List.getElem_cons_zero]
        refine wpAny_take (i := 10) (v := ?_) rfl (by kernel_rfl) (by kernel_rfl) (by kernel_rfl) (fun _ _ _ h => h) (Or.inl ⟨by kernel_rfl, ?_⟩) ?_
        rotate_left
        ·intro w; go_simp; first | done | with_reducible rfl
        try simp only [Act.put, List.setIfInBounds_toArray, List.set_cons_zero, List.set_cons_succ, List.getElem_toArray, List.getElem_cons_succ, List.getElem_cons_zero]
        refine wpAny_take (i := 11) (v := ?_) rfl (by kernel_rfl) (by kernel_rfl) (by kernel_rfl) (fun _ _ _ h => h) (Or.inl ⟨by kernel_rfl, ?_⟩) ?_
        rotate_left
        ·intro w; go_simp; first | done | with_reducible rfl
        try simp only [Act.put, List.setIfInBounds_toArray, List.set_cons_zero, List.set_cons_succ, List.getElem_toArray, List.getElem_cons_succ, List.getElem_cons_zero]
        refine wpAny_done (by kernel_rfl) ?_ _
        rcases H6.out with ⟨rfl, hJ7, hK7⟩ | ⟨rfl, hW7⟩
        ·have H7 := hide hJ7
         have HK7 := hide hK7
         clear H6 hJ7 hK7 v2 v3 hb5 hB5 x0r x1r x2r x3r hwk Hgo hhf
         go_wp2
         go_roundw
         case rel => exact ⟨0 + 1, by omega, by simp, H7.out, HK7.out⟩
         case measure => simp [intOf]
        ·have fin := hide hW7
         clear H6 hW7 v2 v3 hb5 hB5 x0r x1r x2r x3r hwk Hgo hhf
         go_wp2
         go_ret
         exact fin.out
     ·obtain ⟨ys, hys, hJr⟩ := HY.out
      have hz1r : W1.heap.size < wr.heap.size := Nat.lt_of_lt_of_le hz1 HKr.out.1
      have hz2r : W1.heap.size + 1 < wr.heap.size := Nat.lt_of_lt_of_le hz2 HKr.out.1
      have x0r := HKr.out.cell (HNO.out W1.heap.size (Nat.le_refl _)) x0
      have x1r := HKr.out.cell (HNO.out W1.heap.size (Nat.le_refl _)) x1
      have x2r := HKr.out.cell (HNO.out (W1.heap.size + 1) (by omega)) x2
      have x3r := HKr.out.cell (HNO.out (W1.heap.size + 1) (by omega)) x3
      rcases (show o2 = none ∨ ∃ b1, o2 = some b1 from by cases o2 <;> simp) with ho | ⟨b1, ho⟩
      ·skip
       have hLn := Hl2.out ho
       have he : adO o2 = none := by rw [ho]; rfl
       have hix : ∀ w, (Instr.index 168 (.agg #[.pointer (adO o1), .pointer (adO o2)]) (.int .i64 1)).run Tryz.prog w = .ok (.pointer none) w := fun w => by rw [idx1, he]
       have nxt := hide (fun (W : World) (hB : Below wr.heap.size wr W) => show (∃ ys : List { x : Ent // p x }, ys.map (·.1) = wkL (own0 a i n fb fm) L1 L2 (1 + 1) /\ J (pre ++ ys) W) /\ KOwn Own w2 W from by
        obtain ⟨hJ4, hO4⟩ := ENV.out.js _ _ _ hJr (Soft.of_below hB)
        exact ⟨⟨ys, by rw [hys]; unfold wkL; simp [hLn], hJ4⟩, HKr.out.trans (KOwn.of_soft (B := 0) (Soft.of_below hB) hO4)⟩)
       clear hJr hys hLn HY HKr x0r x1r x2r x3r he ho
       generalize adO o1 = P1 at *
       generalize adO o2 = P2 at *
       go_wp2
       go_quiet (fail)
       go_wp2
       go_roundw
       case rel => exact ⟨1 + 1, by omega, by simp, (nxt.out _ (by repeat (first | exact Below.refl _ _ | refine below_drewN ?_ _ | refine Below.drew ?_ | refine Below.trans ?_ (Below.mono (by assumption) ?_) | refine Below.alloc ?_ ?_ _ | refine Below.setCell ?_ ?_ _ | omega | (simp; omega) | simp))).1, (nxt.out _ (by repeat (first | exact Below.refl _ _ | refine below_drewN ?_ _ | refine Below.drew ?_ | refine Below.trans ?_ (Below.mono (by assumption) ?_) | refine Below.alloc ?_ ?_ _ | refine Below.setCell ?_ ?_ _ | omega | (simp; omega) | simp))).2⟩
       case measure => simp [intOf]
      ·skip
       have he : adO o2 = some ⟨b1, 0, none⟩ := by rw [ho]; rfl
       have hix : ∀ w, (Instr.index 168 (.agg #[.pointer (adO o1), .pointer (adO o2)]) (.int .i64 1)).run Tryz.prog w = .ok (ptrV b1) w := fun w => by rw [idx1, he]
       have hi8' : i < 8 := by
        rcases Int.lt_or_le i 8 with h | h
        ·exact h
        ·have := Hi.out (by omega); rw [ho] at this; exact absurd this.2 (by simp)
       have hhf := hide (fun W => pHalf_any a i 1 (.inr rfl) hi0 hi8' ha0 ha1 W)
       have hcs := hide (HC.out 1 (some b1) L2 (.inr ⟨rfl, ho.symm, rfl⟩) b1 rfl)
       have hlen1 : (pre ++ ys).length + L2.length <= N := by
        have h1 := Hlen.out
        have h2 := congrArg List.length hys
        rw [List.length_map] at h2
        unfold wkL at h2
        simp at h2 h1 ⊢
        omega
       have Hys := hide hys
       have HKW := hide (HK2.out.trans HKr.out)
       have Hl1 := hide hlen1
       have Hgo := hide (show ∀ (w5 W6 : World) (bb : Bool), Below wr.heap.size wr w5 -> ((bb = true /\ (∃ zs : List { x : Ent // p x }, zs.map (·.1) = L2 /\ J (pre ++ ys ++ zs) W6) /\ KOwn Own w5 W6) ∨ (bb = false /\ ∃ zs : List { x : Ent // p x }, zs.map (·.1) <+: L2 /\ Jx (pre ++ ys ++ zs) W6)) →
         (bb = true /\ (∃ us : List { x : Ent // p x }, us.map (·.1) = wkL (own0 a i n fb fm) L1 L2 (1 + 1) /\ J (pre ++ us) W6) /\ KOwn Own w2 W6) ∨ (bb = false /\ WkP p Own J Jx (own0 a i n fb fm ++ L1 ++ L2) pre W1 (.returned (.bool false)) W6) from by
        rintro w5 W6 bb hB5 (⟨hb, ⟨zs, hz, hJ6⟩, hK6⟩ | ⟨hb, zs, hz, hJx6⟩)
        ·obtain ⟨_, hO5⟩ := ENV.out.js _ _ _ hJr (Soft.of_below hB5)
         refine .inl ⟨hb, ⟨ys ++ zs, ?_, by rw [<- List.append_assoc]; exact hJ6⟩, HKr.out.trans ((KOwn.of_soft (B := 0) (Soft.of_below hB5) hO5).trans hK6)⟩
         rw [List.map_append, Hys.out, hz]; unfold wkL; simp
        ·refine .inr ⟨hb, false, rfl, .inr ⟨rfl, ys ++ zs, ?_, by rw [<- List.append_assoc]; exact hJx6⟩⟩
         rw [List.map_append, Hys.out]
         obtain ⟨tl, htl⟩ := hz
         unfold wkL
         exact ⟨tl, by rw [<- htl]; simp⟩)
       have hwk := hide (fun (w5 : World) (hB5 : Below wr.heap.size wr w5) => hcs.out w5 (pre ++ ys) (HKW.out.trans (KOwn.of_soft (B := 0) (Soft.of_below hB5) (ENV.out.js _ _ _ hJr (Soft.of_below hB5)).2)) (ENV.out.js _ _ _ hJr (Soft.of_below hB5)).1 Hl1.out)
       obtain ⟨A, hA⟩ : ∃ A, a + 1 * wid (i + 1) = A := ⟨_, rfl⟩
       rw [hA] at hhf hwk
       clear hys HY ho hlen1 he hcs hJr HKr d1 d2 hA
       generalize adO o1 = P1 at *
       generalize adO o2 = P2 at *
       go_wp2
       refine wp_region_any (by kernel_rfl) ?_
       change wpAny _ _ _ _ _ _ _ (World.drew _)
       refine wpAny_take (i := 0) (v := ?_) rfl (by kernel_rfl) (by kernel_rfl) (by kernel_rfl) (fun _ _ _ h => h) (Or.inl ⟨by kernel_rfl, ?_⟩) ?_
       rotate_left
       ·intro w; go_simp; first | done | with_reducible rfl
       try simp only [Act.put, List.setIfInBounds_toArray, List.set_cons_zero, List.set_cons_succ, List.getElem_toArray, List.getElem_cons_succ, List.getElem_cons_zero]
       refine wpAny_take (i := 1) (v := ?_) rfl (by kernel_rfl) (by kernel_rfl) (by kernel_rfl) (fun _ _ _ h => h) (Or.inl ⟨by kernel_rfl, ?_⟩) ?_
       rotate_left
       ·intro w; go_simp; first | done | with_reducible rfl
       try simp only [Act.put, List.setIfInBounds_toArray, List.set_cons_zero, List.set_cons_succ, List.getElem_toArray, List.getElem_cons_succ, List.getElem_cons_zero]
       refine wpAny_take (i := 2) (v := ?_) rfl (by kernel_rfl) (by kernel_rfl) (by kernel_rfl) (fun _ _ _ h => h) (Or.inl ⟨by kernel_rfl, ?_⟩) ?_
       rotate_left
       ·intro w; go_simp; first | done | with_reducible rfl
       try simp only [Act.put, List.setIfInBounds_toArray, List.set_cons_zero, List.set_cons_succ, List.getElem_toArray, List.getElem_cons_succ, List.getElem_cons_zero]
       refine wpAny_take (i := 3) (v := ?_) rfl (by kernel_rfl) (by kernel_rfl) (by kernel_rfl) (fun _ _ _ h => h) (Or.inl ⟨by kernel_rfl, ?_⟩) ?_
       rotate_left
       ·intro w; go_simp; first | done | with_reducible rfl
       try simp only [Act.put, List.setIfInBounds_toArray, List.set_cons_zero, List.set_cons_succ, List.getElem_toArray, List.getElem_cons_succ, List.getElem_cons_zero]
       refine wpAny_take (i := 5) (v := ?_) rfl (by kernel_rfl) (by kernel_rfl) (by kernel_rfl) (fun _ _ _ h => h) (Or.inl ⟨by kernel_rfl, ?_⟩) ?_
       rotate_left
       ·intro w; go_simp; first | done | with_reducible rfl
       try simp only [Act.put, List.setIfInBounds_toArray, List.set_cons_zero, List.set_cons_succ, List.getElem_toArray, List.getElem_cons_succ, List.getElem_cons_zero]
       refine wpAny_take (i := 8) (v := ?_) rfl (by kernel_rfl) (by kernel_rfl) (by kernel_rfl) (fun _ _ _ h => h) (Or.inl ⟨by kernel_rfl, ?_⟩) ?_
       rotate_left
       ·intro w; go_simp; first | done | with_reducible rfl
       try simp only [Act.put, List.setIfInBounds_toArray, List.set_cons_zero, List.set_cons_succ, List.getElem_toArray, List.getElem_cons_succ, List.getElem_cons_zero]
       refine wpAny_ready (rs := [4, 7]) (by kernel_rfl) (by simp) ?_
       refine AllReady.cons rfl (fun K hK => ?_) (AllReady.cons rfl (fun K hK => ?_) AllReady.nil)
       ·go_simp
        refine hK _ _ ?_
        clear hK K
        try simp only [Act.put, List.setIfInBounds_toArray, List.set_cons_zero, List.set_cons_succ, List.getElem_toArray, List.getElem_cons_succ, List.getElem_cons_zero]
        refine wpAny_ready (rs := [6, 7]) (by kernel_rfl) (by simp) ?_
        refine AllReady.cons rfl (fun K hK => ?_) (AllReady.cons rfl (fun K hK => ?_) AllReady.nil)
        ·go_simp
         go_wp2_with fail
         refine (hhf.out _).mono ?_
         rintro e w5 ⟨rfl, hb5⟩
         have hB5 : Below wr.heap.size wr w5 := (Below.refl _ wr).drew.trans hb5
         have v2 := (hB5.cell (p := ⟨W1.heap.size + 1, 0, none⟩) hz2r).trans x2r
         have v3 := (hB5.cell (p := ⟨W1.heap.size + 1, 1, none⟩) hz2r).trans x3r
         refine hK _ _ ?_
         clear hK K
         try simp only [Act.put, List.setIfInBounds_toArray, List.set_cons_zero, List.set_cons_succ, List.getElem_toArray, List.getElem_cons_succ, List.getElem_cons_zero]
         refine wpAny_ready (rs := [7]) (by kernel_rfl) (by simp) ?_
         refine AllReady.cons rfl (fun K hK => ?_) AllReady.nil
         go_simp
         refine hK _ _ ?_
         clear hK K
         try simp only [Act.put, List.setIfInBounds_toArray, List.set_cons_zero, List.set_cons_succ, List.getElem_toArray, List.getElem_cons_succ, List.getElem_cons_zero]
         refine wpAny_ready (rs := [9]) (by kernel_rfl) (by simp) ?_
         refine AllReady.cons rfl (fun K hK => ?_) AllReady.nil
         go_simp
         go_wp2_with fail
         refine (hwk.out w5 hB5).mono ?_
         rintro e W6 ⟨bb, rfl, h6⟩
         have H6 := hide (Hgo.out w5 W6 bb hB5 h6)
         clear h6
         refine hK _ _ ?_
         clear hK K
         try simp only [Act.put, List.setIfInBounds_toArray, List.set_cons_zero, List.set_cons_succ, List.getElem_toArray, List.getElem_cons_succ, List.getElem_cons_zero]
         refine wpAny_take (i := 10) (v := ?_) rfl (by kernel_rfl) (by kernel_rfl) (by kernel_rfl) (fun _ _ _ h => h) (Or.inl ⟨by kernel_rfl, ?_⟩) ?_
         rotate_left
         ·intro w; go_simp; first | done | with_reducible rfl
         try simp only [Act.put, List.setIfInBounds_toArray, List.set_cons_zero, List.set_cons_succ, List.getElem_toArray, List.getElem_cons_succ, List.getElem_cons_zero]
         refine wpAny_take (i := 11) (v := ?_) rfl (by kernel_rfl) (by kernel_rfl) (by kernel_rfl) (fun _ _ _ h => h) (Or.inl ⟨by kernel_rfl, ?_⟩) ?_
         rotate_left
         ·intro w; go_simp; first | done | with_reducible rfl
         try simp only [Act.put, List.setIfInBounds_toArray, List.set_cons_zero, List.set_cons_succ, List.getElem_toArray, List.getElem_cons_succ, List.getElem_cons_zero]
         refine wpAny_done (by kernel_rfl) ?_ _
         rcases H6.out with ⟨rfl, hJ7, hK7⟩ | ⟨rfl, hW7⟩
         ·have H7 := hide hJ7
          have HK7 := hide hK7
          clear H6 hJ7 hK7 v2 v3 hb5 hB5 x0r x1r x2r x3r hwk Hgo hhf
          go_wp2
          go_roundw
          case rel => exact ⟨1 + 1, by omega, by simp, H7.out, HK7.out⟩
          case measure => simp [intOf]
         ·have fin := hide hW7
          clear H6 hW7 v2 v3 hb5 hB5 x0r x1r x2r x3r hwk Hgo hhf
          go_wp2
          go_ret
          exact fin.out
        ·go_simp
         refine hK _ _ ?_
         clear hK K
         try simp only [Act.put, List.setIfInBounds_toArray, List.set_cons_zero, List.set_cons_succ, List.getElem_toArray, List.getElem_cons_succ, List.getElem_cons_zero]
         refine wpAny_ready (rs := [6]) (by kernel_rfl) (by simp) ?_
         refine AllReady.cons rfl (fun K hK => ?_) AllReady.nil
         go_simp
         go_wp2_with fail
         refine (hhf.out _).mono ?_
         rintro e w5 ⟨rfl, hb5⟩
         have hB5 : Below wr.heap.size wr w5 := (Below.refl _ wr).drew.trans hb5
         have v2 := (hB5.cell (p := ⟨W1.heap.size + 1, 0, none⟩) hz2r).trans x2r
         have v3 := (hB5.cell (p := ⟨W1.heap.size + 1, 1, none⟩) hz2r).trans x3r
         refine hK _ _ ?_
         clear hK K
         try simp only [Act.put, List.setIfInBounds_toArray, List.set_cons_zero, List.set_cons_succ, List.getElem_toArray, List.getElem_cons_succ, List.getElem_cons_zero]
         refine wpAny_ready (rs := [9]) (by kernel_rfl) (by simp) ?_
         refine AllReady.cons rfl (fun K hK => ?_) AllReady.nil
         go_simp
         go_wp2_with fail
         refine (hwk.out w5 hB5).mono ?_
         rintro e W6 ⟨bb, rfl, h6⟩
         have H6 := hide (Hgo.out w5 W6 bb hB5 h6)
         clear h6
         refine hK _ _ ?_
         clear hK K
         try simp only [Act.put, List.setIfInBounds_toArray, List.set_cons_zero, List.set_cons_succ, List.getElem_toArray, List.getElem_cons_succ, List.getElem_cons_zero]
         refine wpAny_take (i := 10) (v := ?_) rfl (by kernel_rfl) (by kernel_rfl) (by kernel_rfl) (fun _ _ _ h => h) (Or.inl ⟨by kernel_rfl, ?_⟩) ?_
         rotate_left
         ·intro w; go_simp; first | done | with_reducible rfl
         try simp only [Act.put, List.setIfInBounds_toArray, List.set_cons_zero, List.set_cons_succ, List.getElem_toArray, List.getElem_cons_succ, List.getElem_cons_zero]
         refine wpAny_take (i := 11) (v := ?_) rfl (by kernel_rfl) (by kernel_rfl) (by kernel_rfl) (fun _ _ _ h => h) (Or.inl ⟨by kernel_rfl, ?_⟩) ?_
         rotate_left
         ·intro w; go_simp; first | done | with_reducible rfl
         try simp only [Act.put, List.setIfInBounds_toArray, List.set_cons_zero, List.set_cons_succ, List.getElem_toArray, List.getElem_cons_succ, List.getElem_cons_zero]
         refine wpAny_done (by kernel_rfl) ?_ _
         rcases H6.out with ⟨rfl, hJ7, hK7⟩ | ⟨rfl, hW7⟩
         ·have H7 := hide hJ7
          have HK7 := hide hK7
          clear H6 hJ7 hK7 v2 v3 hb5 hB5 x0r x1r x2r x3r hwk Hgo hhf
          go_wp2
          go_roundw
          case rel => exact ⟨1 + 1, by omega, by simp, H7.out, HK7.out⟩
          case measure => simp [intOf]
         ·have fin := hide hW7
          clear H6 hW7 v2 v3 hb5 hB5 x0r x1r x2r x3r hwk Hgo hhf
          go_wp2
          go_ret
          exact fin.out
       ·go_simp
        refine hK _ _ ?_
        clear hK K
        try simp only [Act.put, List.setIfInBounds_toArray, List.set_cons_zero, List.set_cons_succ, List.getElem_toArray, List.getElem_cons_succ, List.getElem_cons_zero]
        refine wpAny_ready (rs := [4]) (by kernel_rfl) (by simp) ?_
        refine AllReady.cons rfl (fun K hK => ?_) AllReady.nil
        go_simp
        refine hK _ _ ?_
        clear hK K
        try simp only [Act.put, List.setIfInBounds_toArray, List.set_cons_zero, List.set_cons_succ, List.getElem_toArray, List.getElem_cons_succ, List.getElem_cons_zero]
        refine wpAny_ready (rs := [6]) (by kernel_rfl) (by simp) ?_
        refine AllReady.cons rfl (fun K hK => ?_) AllReady.nil
        go_simp
        go_wp2_with fail
        refine (hhf.out _).mono ?_
        rintro e w5 ⟨rfl, hb5⟩
        have hB5 : Below wr.heap.size wr w5 := (Below.refl _ wr).drew.trans hb5
        have v2 := (hB5.cell (p := ⟨W1.heap.size + 1, 0, none⟩) hz2r).trans x2r
        have v3 := (hB5.cell (p := ⟨W1.heap.size + 1, 1, none⟩) hz2r).trans x3r
        refine hK _ _ ?_
        clear hK K
        try simp only [Act.put, List.setIfInBounds_toArray, List.set_cons_zero, List.set_cons_succ, List.getElem_toArray, List.getElem_cons_succ, List.getElem_cons_zero]
        refine wpAny_ready (rs := [9]) (by kernel_rfl) (by simp) ?_
        refine AllReady.cons rfl (fun K hK => ?_) AllReady.nil
        go_simp
        go_wp2_with fail
        refine (hwk.out w5 hB5).mono ?_
        rintro e W6 ⟨bb, rfl, h6⟩
        have H6 := hide (Hgo.out w5 W6 bb hB5 h6)
        clear h6
        refine hK _ _ ?_
        clear hK K
        try simp only [Act.put, List.setIfInBounds_toArray, List.set_cons_zero, List.set_cons_succ, List.getElem_toArray, List.getElem_cons_succ, List.getElem_cons_zero]
        refine wpAny_take (i := 10) (v := ?_) rfl (by kernel_rfl) (by kernel_rfl) (by kernel_rfl) (fun _ _ _ h => h) (Or.inl ⟨by kernel_rfl, ?_⟩) ?_
        rotate_left
        ·intro w; go_simp; first | done | with_reducible rfl
        try simp only [Act.put, List.setIfInBounds_toArray, List.set_cons_zero, List.set_cons_succ, List.getElem_toArray, List.getElem_cons_succ, List.getElem_cons_zero]
        refine wpAny_take (i := 11) (v := ?_) rfl (by kernel_rfl) (by kernel_rfl) (by kernel_rfl) (fun _ _ _ h => h) (Or.inl ⟨by kernel_rfl, ?_⟩) ?_
        rotate_left
        ·intro w; go_simp; first | done | with_reducible rfl
        try simp only [Act.put, List.setIfInBounds_toArray, List.set_cons_zero, List.set_cons_succ, List.getElem_toArray, List.getElem_cons_succ, List.getElem_cons_zero]
        refine wpAny_done (by kernel_rfl) ?_ _
        rcases H6.out with ⟨rfl, hJ7, hK7⟩ | ⟨rfl, hW7⟩
        ·have H7 := hide hJ7
         have HK7 := hide hK7
         clear H6 hJ7 hK7 v2 v3 hb5 hB5 x0r x1r x2r x3r hwk Hgo hhf
         go_wp2
         go_roundw
         case rel => exact ⟨1 + 1, by omega, by simp, H7.out, HK7.out⟩
         case measure => simp [intOf]
        ·have fin := hide hW7
         clear H6 hW7 v2 v3 hb5 hB5 x0r x1r x2r x3r hwk Hgo hhf
         go_wp2
         go_ret
         exact fin.out
     ·have fin := hide (show WkP p Own J Jx (own0 a i n fb fm ++ L1 ++ L2) pre W1 (.returned (.bool true)) wr from by
       obtain ⟨ys, hys, hJr⟩ := HY.out
       exact ⟨true, rfl, .inl ⟨rfl, ⟨ys, by rw [hys]; unfold wkL; simp, hJr⟩, HK2.out.trans HKr.out⟩⟩)
      clear HY HKr
      go_wp2
      go_ret
      exact fin.out
   ·have fin := hide (show WkP p Own J Jx (own0 a i n fb fm ++ L1 ++ L2) pre W1 (.returned (.bool false)) wc from
     ⟨false, rfl, .inr ⟨rfl, ys0, hys0.trans (by rw [List.append_assoc]; exact List.prefix_append _ _), hJx3⟩⟩)
    clear hys0 hJx3
    go_wp2
    go_ret
    exact fin.out
end Go.Proofs.YtglbamalagacgaaGreat

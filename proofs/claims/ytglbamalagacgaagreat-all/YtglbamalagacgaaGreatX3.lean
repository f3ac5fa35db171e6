import Derived.Test.YtglbamalagacgaaGreatX2
import Derived.Deep.CutRange
namespace Go.Proofs.YtglbamalagacgaaGreat
open Go.RowKit Go.Shelf
attribute [local go_sem] Oper.semAt_some
structure RteI (w w' : World) (rb : Nat) (a l n : Int) : Prop where
 below : Below w.heap.size w w'
 box : w'.heap[rb]? = some (.cells #[.int .i64 a, .int .i64 l, .int .i64 n] 90 (0, 0))
 ge : w.heap.size <= rb
theorem rte_alloc {w w2 : World} {a l n : Int} (hb : Below w.drew.heap.size w.drew w2) : RteI w (w2.alloc (.cells #[.int .i64 a, .int .i64 l, .int .i64 n] 90)) w2.heap.size a l n := by
 have hB : Below w.heap.size w w2 := (Below.refl _ w).drew.trans hb
 exact ⟨hB.alloc hB.size _, World.alloc_heap_new w2 _, hB.size⟩
theorem rte_store {w w2 : World} {a l n : Int} (hb : Below (w.alloc (Obj.cells #[.int .i64 0, .int .i64 0, .int .i64 0] 90)).drew.heap.size (w.alloc (Obj.cells #[.int .i64 0, .int .i64 0, .int .i64 0] 90)).drew w2) :
  RteI w (((w2.setCell ⟨w.heap.size, 0, none⟩ (.int .i64 a)).setCell ⟨w.heap.size, 1, none⟩ (.int .i64 l)).setCell ⟨w.heap.size, 2, none⟩ (.int .i64 n)) w.heap.size a l n := by
 have hB : Below w.heap.size w w2 := ((Below.refl _ w).alloc (Nat.le_refl _) _).drew.trans (hb.mono (by simp))
 have h1 : w2.heap[w.heap.size]? = some (.cells #[.int .i64 0, .int .i64 0, .int .i64 0] 90 (0, 0)) := (hb.block _ (by simp)).trans (World.alloc_heap_new w _)
 have a1 := (setT h1 0 (.int .i64 a)).1
 have b1 := (setT a1 1 (.int .i64 l)).1
 have c1 := (setT b1 2 (.int .i64 n)).1
 exact ⟨((hB.setCell (by simp) _).setCell (by simp) _).setCell (by simp) _, c1, Nat.le_refl _⟩
set_option maxRecDepth 8000 in
set_option maxHeartbeats 4000000 in
theorem route_look (w : World) (d : Sd) (wb : Nat) (vs : Value) (no ni : Nat) (F : List Nat) (a l n : Int) (v : Value) (wh : Bool) (cs : List Chg) (h : PW w d wb vs no ni F) (hv : ChgsAt w v cs) :
  Calls Tryz.prog 72 #[ptrV wb, ptrV d.b, opV 5 a l n v wh] w (StP w d wb vs no ni F) := by
 obtain ⟨va, vc, rfl⟩ : ∃ va vc, v = .slice va cs.length vc := by obtain ⟨p, q, h, _⟩ := hv; exact ⟨p, q, h⟩
 have hR := rtW w 5 a l n (.slice va cs.length vc) wh
 obtain ⟨w1, hw1⟩ : ∃ w1, (w.alloc (.cells (opB 5 a l n (.slice va cs.length vc) wh) 85)).alloc (.cells #[.int .i64 a, .int .i64 l] 65) = w1 := ⟨_, rfl⟩
 rw [hw1] at hR
 have h1 := h.later hR.B
 have o0 : w1.cell? ⟨w.heap.size, 0, none⟩ = some (.int .i64 5) := by simp [World.cell?, hR.ob]
 have o1 : w1.cell? ⟨w.heap.size, 1, none⟩ = some (.int .i64 a) := by simp [World.cell?, hR.ob]
 have o2 : w1.cell? ⟨w.heap.size, 2, none⟩ = some (.int .i64 l) := by simp [World.cell?, hR.ob]
 have o3 : w1.cell? ⟨w.heap.size, 3, none⟩ = some (.int .i64 n) := by simp [World.cell?, hR.ob]
 have o4 : w1.cell? ⟨w.heap.size, 4, none⟩ = some (.slice va cs.length vc) := by simp [World.cell?, hR.ob]
 have o5 : w1.cell? ⟨w.heap.size, 5, none⟩ = some (.bool wh) := by simp [World.cell?, hR.ob]
 have p0 : w1.cell? ⟨w.heap.size + 1, 0, none⟩ = some (.int .i64 a) := by simp [World.cell?, hR.pb]
 have p1 : w1.cell? ⟨w.heap.size + 1, 1, none⟩ = some (.int .i64 l) := by simp [World.cell?, hR.pb]
 have hz := hR.z
 have zo : w.heap.size < w1.heap.size := by omega
 have zp : w.heap.size + 1 < w1.heap.size := by omega
 have b0 := h1.p.c0
 have b1 := h1.p.c1
 have bl := h1.p.bl
 have H1 := hide h1
 have H := hide h
 have HOUT := hide h.outside
 have HB1 := hide hR.B
 have hs := h1.p.ok
 have HX := hide (show ∀ W, Below w1.heap.size w1 W -> Calls Tryz.prog 41 #[ptrV d.x, .int .i64 a] W (fun r w' => r = .returned (.tuple #[rteV (lookR d.s.xs a).1.a (lookR d.s.xs a).1.l (lookR d.s.xs a).1.n, .int .i64 (lookR d.s.xs a).2]) /\ Below W.heap.size W w' /\ Below w1.heap.size w1 w') from fun W hW => ((h1.later hW).p.T.look a).mono fun r w' h => ⟨h.1, h.2, hW.trans (h.2.mono hW.size)⟩)
 have HY := hide (show ∀ W, Below w1.heap.size w1 W -> Calls Tryz.prog 115 #[ptrV d.y, .int .i64 a] W (fun r w' => r = .returned (.tuple #[rteV (lookR d.s.xs a).1.a (lookR d.s.xs a).1.l (lookR d.s.xs a).1.n, .int .i64 (lookR d.s.xs a).2]) /\ Below W.heap.size W w') from fun W hW => look_r W d.y d.s d.A' a (h1.later hW).p.R hs.good)
 obtain ⟨L, hL⟩ : ∃ L, lookR d.s.xs a = L := ⟨_, rfl⟩
 rw [hL] at HX HY
 clear hL
 obtain ⟨⟨ra, rl, rn⟩, er⟩ := L
 simp only at HX HY
 obtain ⟨b, x, y, s, A, A'⟩ := d
 simp only at b0 b1 bl HX HY
 have bn1 : b ≠ w1.heap.size := by omega
 have bn2 : w1.heap.size ≠ b := by omega
 have on1 : w.heap.size ≠ w1.heap.size := by omega
 have on2 : w1.heap.size ≠ w.heap.size := by omega
 have bl2 : b < w1.heap.size + 1 := by omega
 have zo2 : w.heap.size < w1.heap.size + 1 := by omega
 clear h1 h hv hs hz
 go_enter Tryz.func72, Tryz.ntmps72
 go_wp2
 go_cut [12, 13] from 16 to 158 (fun s12 s13 w' => ∃ rb, s12 = ptrV rb /\ s13 = .int .i64 er /\ RteI w1 w' rb ra rl rn)
 case first =>
  go_region_held3 (fun w' => w'.cell? ⟨b, 0, none⟩ = some (ptrV x) /\ w'.cell? ⟨w.heap.size, 1, none⟩ = some (.int .i64 a)) (go_keep)
   ((go_at_call 41; refine (HX.out _ (by repeat (first | exact Below.refl _ _ | refine below_drewN ?_ _ | refine Below.drew ?_ | refine Below.trans ?_ (Below.mono (by assumption) ?_) | refine Below.alloc ?_ ?_ _ | refine Below.setCell ?_ ?_ _ | omega | (simp; omega) | simp))).mono ?_; rintro _ w2 ⟨rfl, hb2, hbw⟩; have u1 : ∀ o, w2.cell? ⟨b, o, none⟩ = w1.cell? ⟨b, o, none⟩ := fun o => hbw.cell (p := ⟨b, o, none⟩) bl; have u2 : ∀ o, w2.cell? ⟨w.heap.size, o, none⟩ = w1.cell? ⟨w.heap.size, o, none⟩ := fun o => hbw.cell (p := ⟨w.heap.size, o, none⟩) zo; have hc2 := (bcell hb2).1; have hf2 := (bcell hb2).2))
  all_goals
   first
    | (have fin := hide (rte_alloc (w := w1) (a := ra) (l := rl) (n := rn) hb2))
    | (have fin := hide (rte_store (w := w1) (a := ra) (l := rl) (n := rn) hb2))
   clear hb2 hc2 hf2 hbw u1 u2
   go_wp2_with fail
   go_meet
   exact ⟨_, rfl, rfl, fin.out⟩
 case rest =>
  obtain ⟨rb, rfl, rfl, hC⟩ := hcut
  have hB := hC.below
  have hsz := hB.size
  have rbl : rb < wc.heap.size := (Array.getElem?_eq_some_iff.1 hC.box).1
  have c1 := (hB.cell (p := ⟨b, 1, none⟩) bl).trans b1
  have c2 := (hB.cell (p := ⟨w.heap.size, 1, none⟩) zo).trans o1
  have bl3 : b < wc.heap.size := by omega
  have zo3 : w.heap.size < wc.heap.size := by omega
  have bn3 : b ≠ wc.heap.size := by omega
  have bn4 : wc.heap.size ≠ b := by omega
  have on3 : w.heap.size ≠ wc.heap.size := by omega
  have on4 : wc.heap.size ≠ w.heap.size := by omega
  have bl5 : b < wc.heap.size + 1 := by omega
  have zo5 : w.heap.size < wc.heap.size + 1 := by omega
  have HC := hide hC
  have HYC := hide (fun W (hW : Below wc.heap.size wc W) => (HY.out W (HC.out.below.trans (hW.mono HC.out.below.size))).mono (R' := fun r w' => r = .returned (.tuple #[rteV ra rl rn, .int .i64 er]) /\ Below W.heap.size W w' /\ Below wc.heap.size wc w') fun r w' h => ⟨h.1, h.2, hW.trans (h.2.mono hW.size)⟩)
  clear hC hB HX HY o0 o1 o2 o3 o4 o5 p0 p1 b0 b1 bn1 bn2 on1 on2 bl2 zo2 hw1
  go_wp2
  go_cut [14, 15] from 16 to 158 (fun s14 s15 w' => ∃ rc, s14 = ptrV rc /\ s15 = .int .i64 er /\ RteI wc w' rc ra rl rn)
  case first =>
   go_region_held3 (fun w' => w'.cell? ⟨b, 1, none⟩ = some (ptrV y) /\ w'.cell? ⟨w.heap.size, 1, none⟩ = some (.int .i64 a)) (go_keep)
    ((go_at_call 115; refine (HYC.out _ (by repeat (first | exact Below.refl _ _ | refine below_drewN ?_ _ | refine Below.drew ?_ | refine Below.trans ?_ (Below.mono (by assumption) ?_) | refine Below.alloc ?_ ?_ _ | refine Below.setCell ?_ ?_ _ | omega | (simp; omega) | simp))).mono ?_; rintro _ w2 ⟨rfl, hb2, hbw⟩; have u1 : ∀ o, w2.cell? ⟨b, o, none⟩ = wc.cell? ⟨b, o, none⟩ := fun o => hbw.cell (p := ⟨b, o, none⟩) bl3; have u2 : ∀ o, w2.cell? ⟨w.heap.size, o, none⟩ = wc.cell? ⟨w.heap.size, o, none⟩ := fun o => hbw.cell (p := ⟨w.heap.size, o, none⟩) zo3; have hc2 := (bcell hb2).1; have hf2 := (bcell hb2).2))
   all_goals
    first
     | (have fin := hide (rte_alloc (w := wc) (a := ra) (l := rl) (n := rn) hb2))
     | (have fin := hide (rte_store (w := wc) (a := ra) (l := rl) (n := rn) hb2))
    clear hb2 hc2 hf2 hbw u1 u2
    go_wp2_with fail
    go_meet
    exact ⟨_, rfl, rfl, fin.out⟩
  case rest =>
   obtain ⟨rc, rfl, rfl, hC⟩ := hcut
   have hB := hC.below
   have hbx := (hB.block _ rbl).trans HC.out.box
   have r0 : wc.cell? ⟨rb, 0, none⟩ = some (.int .i64 ra) := by simp [World.cell?, hbx]
   have r1 : wc.cell? ⟨rb, 1, none⟩ = some (.int .i64 rl) := by simp [World.cell?, hbx]
   have r2 : wc.cell? ⟨rb, 2, none⟩ = some (.int .i64 rn) := by simp [World.cell?, hbx]
   have t0 : wc.cell? ⟨rc, 0, none⟩ = some (.int .i64 ra) := by simp [World.cell?, hC.box]
   have t1 : wc.cell? ⟨rc, 1, none⟩ = some (.int .i64 rl) := by simp [World.cell?, hC.box]
   have t2 : wc.cell? ⟨rc, 2, none⟩ = some (.int .i64 rn) := by simp [World.cell?, hC.box]
   have fin := hide ((H1.out.stay (HC.out.below.trans (hB.mono HC.out.below.size))).up HB1.out)
   clear hC hB hbx HYC c1 c2 HC
   go_wp2
   go_ret
   exact fin.out
theorem route_y (w : World) (d : Sd) (wb : Nat) (vs : Value) (no ni : Nat) (F : List Nat) (a l n : Int) (v : Value) (wh : Bool) (cs : List Chg) (h : PW w d wb vs no ni F) (hv : ChgsAt w v cs) (hva : Apart v (d.F ++ F)) (hcl : cs.length <= 6000000000000) (b1 : no <= 8999999999990) (b2 : ni <= 8999999999990) (k : Int) :
  Calls Tryz.prog 72 #[ptrV wb, ptrV d.b, opV k a l n v wh] w (StP w d wb vs no ni F) := by
 by_cases k1 : k = 1
 ·subst k1; exact route_add w d wb vs no ni F a l n v wh cs h hv
 by_cases k2 : k = 2
 ·subst k2; exact route_del w d wb vs no ni F a l n v wh cs h hv
 by_cases k3 : k = 3
 ·subst k3; exact route_app w d wb vs no ni F a l n v wh cs h hv hva hcl b2
 by_cases k4 : k = 4
 ·subst k4; exact route_get w d wb vs no ni F a l n v wh cs h hv
 by_cases k5 : k = 5
 ·subst k5; exact route_look w d wb vs no ni F a l n v wh cs h hv
 by_cases k6 : k = 6
 ·subst k6; exact route_pag w d wb vs no ni F a l n v wh cs h hv b1 (by omega)
 by_cases k7 : k = 7
 ·subst k7; exact route_set w d wb vs no ni F a l n v wh cs h hv
 exact route_oth w d wb vs no ni F a l n v wh cs h hv k ⟨k1, k2, k3, k4, k5, k6, k7⟩
end Go.Proofs.YtglbamalagacgaaGreat

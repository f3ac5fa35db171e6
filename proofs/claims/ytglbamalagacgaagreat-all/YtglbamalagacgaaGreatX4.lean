import Derived.Test.YtglbamalagacgaaGreatX3
import Derived.Test.YtglbamalagacgaaGreatZ2
namespace Go.Proofs.YtglbamalagacgaaGreat
open Go.RowKit Go.Shelf
attribute [local go_sem] Oper.semAt_some
structure SpW (w w1 : World) (k a l n : Int) (v : Value) (wh : Bool) : Prop where
 B : Below w.heap.size w w1
 ob : w1.heap[w.heap.size]? = some (.cells (opB k a l n v wh) 85 (0, 0))
 z : w1.heap.size = w.heap.size + 1
theorem spW (w : World) (k a l n : Int) (v : Value) (wh : Bool) : SpW w (w.alloc (.cells (opB k a l n v wh) 85)) k a l n v wh :=
 ⟨(Below.refl _ w).alloc (Nat.le_refl _) _, World.alloc_heap_new w _, by simp⟩
set_option maxHeartbeats 1000000 in
theorem sameState_y (a b c e f g : Int) (w : World) : Calls Tryz.prog 70 #[staV a b c e f g, staV a b c e f g] w fun r w' => r = .returned (.bool true) /\ Below w.heap.size w w' := by
 go_enter Tryz.func70, Tryz.ntmps70
 go_wp2
 go_ret
 exact ⟨rfl, (by repeat (first | exact Below.refl _ _ | refine below_drewN ?_ _ | refine Below.drew ?_ | refine Below.trans ?_ (Below.mono (by assumption) ?_) | refine Below.alloc ?_ ?_ _ | refine Below.setCell ?_ ?_ _ | omega | (simp; omega) | simp))⟩
set_option maxRecDepth 8000 in
set_option maxHeartbeats 4000000 in
theorem step_stp (w : World) (d : Sd) (wb : Nat) (vs : Value) (no ni : Nat) (F : List Nat) (a l n : Int) (v : Value) (wh : Bool) (cs : List Chg) (h : PW w d wb vs no ni F) (hv : ChgsAt w v cs) :
  Calls Tryz.prog 33 #[ptrV wb, ptrV d.b, opV 11 a l n v wh] w (StP w d wb vs no ni F) := by
 obtain ⟨va, vc, rfl⟩ : ∃ va vc, v = .slice va cs.length vc := by obtain ⟨p, q, h, _⟩ := hv; exact ⟨p, q, h⟩
 have hR := spW w 11 a l n (.slice va cs.length vc) wh
 obtain ⟨w1, hw1⟩ : ∃ w1, w.alloc (.cells (opB 11 a l n (.slice va cs.length vc) wh) 85) = w1 := ⟨_, rfl⟩
 rw [hw1] at hR
 have h1 := h.later hR.B
 have o0 : w1.cell? ⟨w.heap.size, 0, none⟩ = some (.int .i64 11) := by simp [World.cell?, hR.ob]
 have o1 : w1.cell? ⟨w.heap.size, 1, none⟩ = some (.int .i64 a) := by simp [World.cell?, hR.ob]
 have o2 : w1.cell? ⟨w.heap.size, 2, none⟩ = some (.int .i64 l) := by simp [World.cell?, hR.ob]
 have o3 : w1.cell? ⟨w.heap.size, 3, none⟩ = some (.int .i64 n) := by simp [World.cell?, hR.ob]
 have o4 : w1.cell? ⟨w.heap.size, 4, none⟩ = some (.slice va cs.length vc) := by simp [World.cell?, hR.ob]
 have o5 : w1.cell? ⟨w.heap.size, 5, none⟩ = some (.bool wh) := by simp [World.cell?, hR.ob]
 have hz := hR.z
 have zo : w.heap.size < w1.heap.size := by omega
 have b0 := h1.p.c0
 have b1 := h1.p.c1
 have bl := h1.p.bl
 have H1 := hide h1
 have H := hide h
 have HOUT := hide h.outside
 have HB1 := hide hR.B
 have hs := h1.p.ok
 have hx := hide (h1.p.T.step)
 obtain ⟨b, hb⟩ : ∃ b, d.b = b := ⟨_, rfl⟩
 obtain ⟨x, hxx⟩ : ∃ x, d.x = x := ⟨_, rfl⟩
 obtain ⟨y, hyy⟩ : ∃ y, d.y = y := ⟨_, rfl⟩
 have HY := hide (show ∀ W s' A1, MidY w1 W d s' A1 -> Calls Tryz.prog 68 #[ptrV d.y] W (RTurn W d.y d.A' (.int .i64 d.s.step.1) d.s.step.2) from fun W s' A1 hm => step_r W d.y d.s d.A' hm.R hs)
 rw [hb] at b0 b1 bl
 rw [hxx] at b0 hx
 rw [hyy] at b1 HY
 rw [hb]
 have HBB := hide hb
 have HYY := hide hyy
 have HXX := hide hxx
 clear h1 h hv hs hb hxx hyy
 go_enter Tryz.func33, Tryz.ntmps33
 go_wp2_with fail
 refine hx.out.mono ?_
 rintro _ w4 hp4
 obtain ⟨rfl, A1, hm4⟩ := H1.out.p.mid (Below.refl _ w1) (by rw [HXX.out]; exact hp4)
 have hy := hide (HY.out w4 _ A1 hm4)
 have c1 := ((by rw [<- HBB.out]; exact hm4.cb H1.out.p 1) : w4.cell? ⟨b, 1, none⟩ = w1.cell? ⟨b, 1, none⟩).trans b1
 have bl4 : b < w4.heap.size := by have := hm4.only.size; omega
 have HM4 := hide hm4
 clear hx HY hp4 hm4 o0 o1 o2 o3 o4 o5 b0 b1 hw1
 go_wp2_with fail
 refine hy.out.mono ?_
 rintro _ w5 hp5
 obtain ⟨rfl, A1', hd5⟩ := HM4.out.done H1.out.p (Below.refl _ w4) (by rw [HYY.out]; exact hp5)
 have fin := hide ((H1.out.stp hd5).up HB1.out)
 clear hd5 hp5 hy c1
 go_wp2
 go_ret
 exact fin.out
set_option maxRecDepth 8000 in
set_option maxHeartbeats 4000000 in
theorem step_abo (w : World) (d : Sd) (wb : Nat) (vs : Value) (no ni : Nat) (F : List Nat) (a l n : Int) (v : Value) (wh : Bool) (cs : List Chg) (h : PW w d wb vs no ni F) (hv : ChgsAt w v cs) :
  Calls Tryz.prog 33 #[ptrV wb, ptrV d.b, opV 12 a l n v wh] w (StP w d wb vs no ni F) := by
 obtain ⟨va, vc, rfl⟩ : ∃ va vc, v = .slice va cs.length vc := by obtain ⟨p, q, h, _⟩ := hv; exact ⟨p, q, h⟩
 have hR := spW w 12 a l n (.slice va cs.length vc) wh
 obtain ⟨w1, hw1⟩ : ∃ w1, w.alloc (.cells (opB 12 a l n (.slice va cs.length vc) wh) 85) = w1 := ⟨_, rfl⟩
 rw [hw1] at hR
 have h1 := h.later hR.B
 have o0 : w1.cell? ⟨w.heap.size, 0, none⟩ = some (.int .i64 12) := by simp [World.cell?, hR.ob]
 have o1 : w1.cell? ⟨w.heap.size, 1, none⟩ = some (.int .i64 a) := by simp [World.cell?, hR.ob]
 have o2 : w1.cell? ⟨w.heap.size, 2, none⟩ = some (.int .i64 l) := by simp [World.cell?, hR.ob]
 have o3 : w1.cell? ⟨w.heap.size, 3, none⟩ = some (.int .i64 n) := by simp [World.cell?, hR.ob]
 have o4 : w1.cell? ⟨w.heap.size, 4, none⟩ = some (.slice va cs.length vc) := by simp [World.cell?, hR.ob]
 have o5 : w1.cell? ⟨w.heap.size, 5, none⟩ = some (.bool wh) := by simp [World.cell?, hR.ob]
 have hz := hR.z
 have zo : w.heap.size < w1.heap.size := by omega
 have b0 := h1.p.c0
 have b1 := h1.p.c1
 have bl := h1.p.bl
 have H1 := hide h1
 have H := hide h
 have HOUT := hide h.outside
 have HB1 := hide hR.B
 have hs := h1.p.ok
 have hx := hide (h1.p.T.abort)
 obtain ⟨b, hb⟩ : ∃ b, d.b = b := ⟨_, rfl⟩
 obtain ⟨x, hxx⟩ : ∃ x, d.x = x := ⟨_, rfl⟩
 obtain ⟨y, hyy⟩ : ∃ y, d.y = y := ⟨_, rfl⟩
 have HY := hide (show ∀ W s' A1, MidY w1 W d s' A1 -> Calls Tryz.prog 69 #[ptrV d.y] W (RTurn W d.y d.A' (.int .i64 d.s.abort.1) d.s.abort.2) from fun W s' A1 hm => abort_r W d.y d.s d.A' hm.R hs.good)
 rw [hb] at b0 b1 bl
 rw [hxx] at b0 hx
 rw [hyy] at b1 HY
 rw [hb]
 have HBB := hide hb
 have HYY := hide hyy
 have HXX := hide hxx
 clear h1 h hv hs hb hxx hyy
 go_enter Tryz.func33, Tryz.ntmps33
 go_wp2_with fail
 refine hx.out.mono ?_
 rintro _ w4 hp4
 obtain ⟨rfl, A1, hm4⟩ := H1.out.p.mid (Below.refl _ w1) (by rw [HXX.out]; exact hp4)
 have hy := hide (HY.out w4 _ A1 hm4)
 have c1 := ((by rw [<- HBB.out]; exact hm4.cb H1.out.p 1) : w4.cell? ⟨b, 1, none⟩ = w1.cell? ⟨b, 1, none⟩).trans b1
 have bl4 : b < w4.heap.size := by have := hm4.only.size; omega
 have HM4 := hide hm4
 clear hx HY hp4 hm4 o0 o1 o2 o3 o4 o5 b0 b1 hw1
 go_wp2_with fail
 refine hy.out.mono ?_
 rintro _ w5 hp5
 obtain ⟨rfl, A1', hd5⟩ := HM4.out.done H1.out.p (Below.refl _ w4) (by rw [HYY.out]; exact hp5)
 have fin := hide ((H1.out.stp hd5).up HB1.out)
 clear hd5 hp5 hy c1
 go_wp2
 go_ret
 exact fin.out
set_option maxRecDepth 8000 in
set_option maxHeartbeats 4000000 in
theorem step_mov (w : World) (d : Sd) (wb : Nat) (vs : Value) (no ni : Nat) (F : List Nat) (a l n : Int) (v : Value) (wh : Bool) (cs : List Chg) (h : PW w d wb vs no ni F) (hv : ChgsAt w v cs) :
  Calls Tryz.prog 33 #[ptrV wb, ptrV d.b, opV 10 a l n v wh] w (StP w d wb vs no ni F) := by
 obtain ⟨va, vc, rfl⟩ : ∃ va vc, v = .slice va cs.length vc := by obtain ⟨p, q, h, _⟩ := hv; exact ⟨p, q, h⟩
 have hR := spW w 10 a l n (.slice va cs.length vc) wh
 obtain ⟨w1, hw1⟩ : ∃ w1, w.alloc (.cells (opB 10 a l n (.slice va cs.length vc) wh) 85) = w1 := ⟨_, rfl⟩
 rw [hw1] at hR
 have h1 := h.later hR.B
 have o0 : w1.cell? ⟨w.heap.size, 0, none⟩ = some (.int .i64 10) := by simp [World.cell?, hR.ob]
 have o1 : w1.cell? ⟨w.heap.size, 1, none⟩ = some (.int .i64 a) := by simp [World.cell?, hR.ob]
 have o2 : w1.cell? ⟨w.heap.size, 2, none⟩ = some (.int .i64 l) := by simp [World.cell?, hR.ob]
 have o3 : w1.cell? ⟨w.heap.size, 3, none⟩ = some (.int .i64 n) := by simp [World.cell?, hR.ob]
 have o4 : w1.cell? ⟨w.heap.size, 4, none⟩ = some (.slice va cs.length vc) := by simp [World.cell?, hR.ob]
 have o5 : w1.cell? ⟨w.heap.size, 5, none⟩ = some (.bool wh) := by simp [World.cell?, hR.ob]
 have hz := hR.z
 have zo : w.heap.size < w1.heap.size := by omega
 have b0 := h1.p.c0
 have b1 := h1.p.c1
 have bl := h1.p.bl
 have H1 := hide h1
 have H := hide h
 have HOUT := hide h.outside
 have HB1 := hide hR.B
 have hs := h1.p.ok
 have hx := hide ((h1.p.T.later (Below.refl _ w1).drew).move n)
 obtain ⟨b, hb⟩ : ∃ b, d.b = b := ⟨_, rfl⟩
 obtain ⟨x, hxx⟩ : ∃ x, d.x = x := ⟨_, rfl⟩
 obtain ⟨y, hyy⟩ : ∃ y, d.y = y := ⟨_, rfl⟩
 have HY := hide (show ∀ W s' A1, MidY w1 W d s' A1 -> Calls Tryz.prog 67 #[ptrV d.y, .int .i64 n] W.drew (RTurn W.drew d.y d.A' (.int .i64 (d.s.move n).1) (d.s.move n).2) from fun W s' A1 hm => move_r W.drew d.y d.s d.A' n (hm.R.later (Below.refl _ W).drew) hs.good)
 rw [hb] at b0 b1 bl
 rw [hxx] at b0 hx
 rw [hyy] at b1 HY
 rw [hb]
 have HBB := hide hb
 have HYY := hide hyy
 have HXX := hide hxx
 clear h1 h hv hs hb hxx hyy
 go_enter Tryz.func33, Tryz.ntmps33
 go_wp2
 go_region_held3 (fun w' => w'.cell? ⟨b, 0, none⟩ = some (ptrV x) /\ w'.cell? ⟨w.heap.size, 3, none⟩ = some (.int .i64 n)) (go_keep)
  (first | (go_at_call 24; refine hx.out.mono ?_; rintro _ w4 hp4; (obtain ⟨rfl, A1, hm4⟩ := H1.out.p.mid (Below.refl _ w1).drew (by rw [HXX.out]; exact hp4)); (have u1 : ∀ o, w4.cell? ⟨b, o, none⟩ = w1.cell? ⟨b, o, none⟩ := by (rw [<- HBB.out]; exact hm4.cb H1.out.p)); (have u2 : ∀ o, w4.cell? ⟨w.heap.size, o, none⟩ = w1.cell? ⟨w.heap.size, o, none⟩ := hm4.ck zo (HOUT.out _ (Nat.le_refl _)))))
 have hy := hide (HY.out w4 _ A1 hm4)
 have c1 := (u1 1).trans b1
 have c2 := (u2 3).trans o3
 have zs := hm4.only.size
 have bl4 : b < w4.heap.size := by omega
 have zo4 : w.heap.size < w4.heap.size := by omega
 have HM4 := hide hm4
 clear hx HY hp4 hm4 o0 o1 o2 o3 o4 o5 b0 b1 u1 u2 hw1
 go_wp2
 go_region_held3 (fun w' => w'.cell? ⟨b, 1, none⟩ = some (ptrV y) /\ w'.cell? ⟨w.heap.size, 3, none⟩ = some (.int .i64 n)) (go_keep)
  (first | (go_at_call 67; refine hy.out.mono ?_; rintro _ w5 hp5; (obtain ⟨rfl, A1', hd5⟩ := HM4.out.done H1.out.p (Below.refl _ w4).drew (by rw [HYY.out]; exact hp5)); (have v1 : ∀ o, w5.cell? ⟨b, o, none⟩ = w4.cell? ⟨b, o, none⟩ := by (intro o; rw [<- HBB.out]; exact (hd5.cb H1.out.p o).trans (HM4.out.cb H1.out.p o).symm)); (have v2 : ∀ o, w5.cell? ⟨w.heap.size, o, none⟩ = w4.cell? ⟨w.heap.size, o, none⟩ := fun o => (hd5.ck zo (HOUT.out _ (Nat.le_refl _)) o).trans (HM4.out.ck zo (HOUT.out _ (Nat.le_refl _)) o).symm)))
 have fin := hide ((H1.out.stp hd5).up HB1.out)
 clear hd5 v1 v2 hp5 hy c1 c2
 go_wp2
 go_ret
 exact fin.out
set_option maxRecDepth 8000 in
set_option maxHeartbeats 4000000 in
theorem step_cel (w : World) (d : Sd) (wb : Nat) (vs : Value) (no ni : Nat) (F : List Nat) (a l n : Int) (v : Value) (wh : Bool) (cs : List Chg) (h : PW w d wb vs no ni F) (hv : ChgsAt w v cs) :
  Calls Tryz.prog 33 #[ptrV wb, ptrV d.b, opV 8 a l n v wh] w (StP w d wb vs no ni F) := by
 obtain ⟨va, vc, rfl⟩ : ∃ va vc, v = .slice va cs.length vc := by obtain ⟨p, q, h, _⟩ := hv; exact ⟨p, q, h⟩
 have hR := spW w 8 a l n (.slice va cs.length vc) wh
 obtain ⟨w1, hw1⟩ : ∃ w1, w.alloc (.cells (opB 8 a l n (.slice va cs.length vc) wh) 85) = w1 := ⟨_, rfl⟩
 rw [hw1] at hR
 have h1 := h.later hR.B
 have o0 : w1.cell? ⟨w.heap.size, 0, none⟩ = some (.int .i64 8) := by simp [World.cell?, hR.ob]
 have o1 : w1.cell? ⟨w.heap.size, 1, none⟩ = some (.int .i64 a) := by simp [World.cell?, hR.ob]
 have o2 : w1.cell? ⟨w.heap.size, 2, none⟩ = some (.int .i64 l) := by simp [World.cell?, hR.ob]
 have o3 : w1.cell? ⟨w.heap.size, 3, none⟩ = some (.int .i64 n) := by simp [World.cell?, hR.ob]
 have o4 : w1.cell? ⟨w.heap.size, 4, none⟩ = some (.slice va cs.length vc) := by simp [World.cell?, hR.ob]
 have o5 : w1.cell? ⟨w.heap.size, 5, none⟩ = some (.bool wh) := by simp [World.cell?, hR.ob]
 have hz := hR.z
 have zo : w.heap.size < w1.heap.size := by omega
 have b0 := h1.p.c0
 have b1 := h1.p.c1
 have bl := h1.p.bl
 have H1 := hide h1
 have H := hide h
 have HOUT := hide h.outside
 have HB1 := hide hR.B
 have hs := h1.p.ok
 have hx := hide h1.p.T.cells
 have HY := hide (show ∀ W, Below w1.heap.size w1 W -> Calls Tryz.prog 65 #[ptrV d.y] W (fun r w' => r = .returned (celV d.s.act (tgtM d.s.mv) (lgdM d.s.mv) d.s.b) /\ Below W.heap.size W w') from fun W hW => told_r W d.y d.s d.A' (h1.later hW).p.R hs.good)
 obtain ⟨b, x, y, s, A, A'⟩ := d
 simp only at b0 b1 bl hx HY
 generalize s.act = q1 at *
 generalize tgtM s.mv = q2 at *
 generalize lgdM s.mv = q3 at *
 obtain ⟨q4, hq4⟩ : ∃ q4, s.b = q4 := ⟨_, rfl⟩
 rw [hq4] at hx HY
 clear h1 h hv hs hq4
 go_enter Tryz.func33, Tryz.ntmps33
 go_wp2_with fail
 refine hx.out.mono ?_
 rintro _ w4 ⟨rfl, hb4⟩
 have hb5 : Below w1.heap.size w1 (w4.alloc (.cells #[.int .i64 q1, .int .i64 q2, .int .i64 q3, .int .i64 q4] 49)) := hb4.alloc hb4.size _
 have hy := hide (HY.out _ hb5)
 have c1 := (hb4.cell (p := ⟨b, 1, none⟩) bl).trans b1
 have bl4 : b < w4.heap.size := by have := hb4.size; omega
 have bn : b ≠ w4.heap.size := by omega
 have HB5 := hide hb5
 clear hx HY hb4 hb5 o0 o1 o2 o3 o4 o5 b0 b1 hw1
 go_wp2_with fail
 refine hy.out.mono ?_
 rintro _ w6 ⟨rfl, hb6⟩
 have z6 : w4.heap.size < w6.heap.size := by have := hb6.size; simp at this; omega
 have hbx : w6.heap[w4.heap.size]? = some (.cells #[.int .i64 q1, .int .i64 q2, .int .i64 q3, .int .i64 q4] 49 (0, 0)) := (hb6.block _ (by simp)).trans (World.alloc_heap_new w4 _)
 have r0 : w6.cell? ⟨w4.heap.size, 0, none⟩ = some (.int .i64 q1) := by simp [World.cell?, hbx]
 have r1 : w6.cell? ⟨w4.heap.size, 1, none⟩ = some (.int .i64 q2) := by simp [World.cell?, hbx]
 have r2 : w6.cell? ⟨w4.heap.size, 2, none⟩ = some (.int .i64 q3) := by simp [World.cell?, hbx]
 have r3 : w6.cell? ⟨w4.heap.size, 3, none⟩ = some (.int .i64 q4) := by simp [World.cell?, hbx]
 have hB6 : Below w1.heap.size w1 w6 := HB5.out.trans (hb6.mono HB5.out.size)
 have fin := hide (show ∀ W, Below w6.heap.size w6 W -> StP w ⟨b, x, y, s, A, A'⟩ wb vs no ni F (.returned (.bool true)) W from fun W hW => (H1.out.stay (hB6.trans (hW.mono hB6.size))).up HB1.out)
 clear hb6 hbx hB6 hy c1
 go_wp2
 go_ret
 exact fin.out _ (by repeat (first | exact Below.refl _ _ | refine below_drewN ?_ _ | refine Below.drew ?_ | refine Below.trans ?_ (Below.mono (by assumption) ?_) | refine Below.alloc ?_ ?_ _ | refine Below.setCell ?_ ?_ _ | omega | (simp; omega) | simp))
set_option maxRecDepth 8000 in
set_option maxHeartbeats 4000000 in
theorem step_adv (w : World) (d : Sd) (wb : Nat) (vs : Value) (no ni : Nat) (F : List Nat) (a l n : Int) (v : Value) (wh : Bool) (cs : List Chg) (h : PW w d wb vs no ni F) (hv : ChgsAt w v cs) :
  Calls Tryz.prog 33 #[ptrV wb, ptrV d.b, opV 9 a l n v wh] w (StP w d wb vs no ni F) := by
 obtain ⟨va, vc, rfl⟩ : ∃ va vc, v = .slice va cs.length vc := by obtain ⟨p, q, h, _⟩ := hv; exact ⟨p, q, h⟩
 have hR := spW w 9 a l n (.slice va cs.length vc) wh
 obtain ⟨w1, hw1⟩ : ∃ w1, w.alloc (.cells (opB 9 a l n (.slice va cs.length vc) wh) 85) = w1 := ⟨_, rfl⟩
 rw [hw1] at hR
 have h1 := h.later hR.B
 have o0 : w1.cell? ⟨w.heap.size, 0, none⟩ = some (.int .i64 9) := by simp [World.cell?, hR.ob]
 have o1 : w1.cell? ⟨w.heap.size, 1, none⟩ = some (.int .i64 a) := by simp [World.cell?, hR.ob]
 have o2 : w1.cell? ⟨w.heap.size, 2, none⟩ = some (.int .i64 l) := by simp [World.cell?, hR.ob]
 have o3 : w1.cell? ⟨w.heap.size, 3, none⟩ = some (.int .i64 n) := by simp [World.cell?, hR.ob]
 have o4 : w1.cell? ⟨w.heap.size, 4, none⟩ = some (.slice va cs.length vc) := by simp [World.cell?, hR.ob]
 have o5 : w1.cell? ⟨w.heap.size, 5, none⟩ = some (.bool wh) := by simp [World.cell?, hR.ob]
 have hz := hR.z
 have zo : w.heap.size < w1.heap.size := by omega
 have b0 := h1.p.c0
 have b1 := h1.p.c1
 have bl := h1.p.bl
 have H1 := hide h1
 have H := hide h
 have HOUT := hide h.outside
 have HB1 := hide hR.B
 have hs := h1.p.ok
 have hx := hide h1.p.T.advise
 have HY := hide (show ∀ W, Below w1.heap.size w1 W -> Calls Tryz.prog 66 #[ptrV d.y] W (fun r w' => r = .returned (.int .i64 (advR d.s.xs)) /\ Below W.heap.size W w') from fun W hW => adv_r W d.y d.s d.A' (h1.later hW).p.R hs.good)
 obtain ⟨b, x, y, s, A, A'⟩ := d
 simp only at b0 b1 bl hx HY
 generalize advR s.xs = q1 at *
 clear h1 h hv hs
 go_enter Tryz.func33, Tryz.ntmps33
 go_wp2_with fail
 refine hx.out.mono ?_
 rintro _ w4 ⟨rfl, hb4⟩
 have hy := hide (HY.out _ hb4)
 have c1 := (hb4.cell (p := ⟨b, 1, none⟩) bl).trans b1
 have bl4 : b < w4.heap.size := by have := hb4.size; omega
 have HB4 := hide hb4
 clear hx HY hb4 o0 o1 o2 o3 o4 o5 b0 b1 hw1
 go_wp2_with fail
 refine hy.out.mono ?_
 rintro _ w6 ⟨rfl, hb6⟩
 have fin := hide ((H1.out.stay (HB4.out.trans (hb6.mono HB4.out.size))).up HB1.out)
 clear hb6 hy c1
 go_wp2
 go_ret
 exact fin.out
set_option maxRecDepth 8000 in
set_option maxHeartbeats 4000000 in
theorem step_sta (w : World) (d : Sd) (wb : Nat) (vs : Value) (no ni : Nat) (F : List Nat) (a l n : Int) (v : Value) (wh : Bool) (cs : List Chg) (h : PW w d wb vs no ni F) (hv : ChgsAt w v cs) :
  Calls Tryz.prog 33 #[ptrV wb, ptrV d.b, opV 13 a l n v wh] w (StP w d wb vs no ni F) := by
 obtain ⟨va, vc, rfl⟩ : ∃ va vc, v = .slice va cs.length vc := by obtain ⟨p, q, h, _⟩ := hv; exact ⟨p, q, h⟩
 have hR := spW w 13 a l n (.slice va cs.length vc) wh
 obtain ⟨w1, hw1⟩ : ∃ w1, w.alloc (.cells (opB 13 a l n (.slice va cs.length vc) wh) 85) = w1 := ⟨_, rfl⟩
 rw [hw1] at hR
 have h1 := h.later hR.B
 have o0 : w1.cell? ⟨w.heap.size, 0, none⟩ = some (.int .i64 13) := by simp [World.cell?, hR.ob]
 have o1 : w1.cell? ⟨w.heap.size, 1, none⟩ = some (.int .i64 a) := by simp [World.cell?, hR.ob]
 have o2 : w1.cell? ⟨w.heap.size, 2, none⟩ = some (.int .i64 l) := by simp [World.cell?, hR.ob]
 have o3 : w1.cell? ⟨w.heap.size, 3, none⟩ = some (.int .i64 n) := by simp [World.cell?, hR.ob]
 have o4 : w1.cell? ⟨w.heap.size, 4, none⟩ = some (.slice va cs.length vc) := by simp [World.cell?, hR.ob]
 have o5 : w1.cell? ⟨w.heap.size, 5, none⟩ = some (.bool wh) := by simp [World.cell?, hR.ob]
 have hz := hR.z
 have zo : w.heap.size < w1.heap.size := by omega
 have b0 := h1.p.c0
 have b1 := h1.p.c1
 have bl := h1.p.bl
 have H1 := hide h1
 have H := hide h
 have HOUT := hide h.outside
 have HB1 := hide hR.B
 have hs := h1.p.ok
 have hx := hide h1.p.T.state
 have HY := hide (show ∀ W, Below w1.heap.size w1 W -> Calls Tryz.prog 71 #[ptrV d.y] W (fun r w' => r = .returned (staV d.s.k (knM d.s.mv) (phM d.s.mv) (cpM d.s.mv) d.s.ms d.s.bs) /\ Below W.heap.size W w') from fun W hW => state_r W d.y d.s d.A' (h1.later hW).p.R)
 obtain ⟨b, x, y, s, A, A'⟩ := d
 simp only at b0 b1 bl hx HY
 obtain ⟨q1, hq1⟩ : ∃ q, s.k = q := ⟨_, rfl⟩
 obtain ⟨q2, hq2⟩ : ∃ q, knM s.mv = q := ⟨_, rfl⟩
 obtain ⟨q3, hq3⟩ : ∃ q, phM s.mv = q := ⟨_, rfl⟩
 obtain ⟨q4, hq4⟩ : ∃ q, cpM s.mv = q := ⟨_, rfl⟩
 obtain ⟨q5, hq5⟩ : ∃ q, s.ms = q := ⟨_, rfl⟩
 obtain ⟨q6, hq6⟩ : ∃ q, s.bs = q := ⟨_, rfl⟩
 rw [hq1, hq2, hq3, hq4, hq5, hq6] at hx HY
 clear h1 h hv hs hq1 hq2 hq3 hq4 hq5 hq6
 go_enter Tryz.func33, Tryz.ntmps33
 go_wp2_with fail
 refine hx.out.mono ?_
 rintro _ w4 ⟨rfl, hb4⟩
 obtain ⟨w5, hw5⟩ : ∃ w5, w4.alloc (.cells #[.int .i64 q1, .int .i64 q2, .int .i64 q3, .int .i64 q4, .int .i64 q5, .int .i64 q6] 39) = w5 := ⟨_, rfl⟩
 have hb5 : Below w1.heap.size w1 w5 := by rw [<- hw5]; exact hb4.alloc hb4.size _
 have hbx : w5.heap[w4.heap.size]? = some (.cells #[.int .i64 q1, .int .i64 q2, .int .i64 q3, .int .i64 q4, .int .i64 q5, .int .i64 q6] 39 (0, 0)) := by rw [<- hw5]; exact World.alloc_heap_new w4 _
 have hz5 : w5.heap.size = w4.heap.size + 1 := by rw [<- hw5]; simp
 have hy := hide (HY.out w5.drew hb5.drew)
 have c1 := (hb5.cell (p := ⟨b, 1, none⟩) bl).trans b1
 have bl5 : b < w5.heap.size := by have := hb5.size; omega
 have z5 : w4.heap.size < w5.heap.size := by omega
 have r0 : w5.cell? ⟨w4.heap.size, 0, none⟩ = some (.int .i64 q1) := by simp [World.cell?, hbx]
 have r1 : w5.cell? ⟨w4.heap.size, 1, none⟩ = some (.int .i64 q2) := by simp [World.cell?, hbx]
 have r2 : w5.cell? ⟨w4.heap.size, 2, none⟩ = some (.int .i64 q3) := by simp [World.cell?, hbx]
 have r3 : w5.cell? ⟨w4.heap.size, 3, none⟩ = some (.int .i64 q4) := by simp [World.cell?, hbx]
 have r4 : w5.cell? ⟨w4.heap.size, 4, none⟩ = some (.int .i64 q5) := by simp [World.cell?, hbx]
 have r5 : w5.cell? ⟨w4.heap.size, 5, none⟩ = some (.int .i64 q6) := by simp [World.cell?, hbx]
 have hsm := hide (fun W => sameState_y q1 q2 q3 q4 q5 q6 W)
 have HB5 := hide hb5
 clear hx HY hb4 hb5 hbx o0 o1 o2 o3 o4 o5 b0 b1 hw1 hz5 hz
 go_wp2
 clear hw5
 go_region_held3 (fun w' => w'.cell? ⟨b, 1, none⟩ = some (ptrV y) /\ w'.cell? ⟨w4.heap.size, 0, none⟩ = some (.int .i64 q1) /\ w'.cell? ⟨w4.heap.size, 1, none⟩ = some (.int .i64 q2) /\ w'.cell? ⟨w4.heap.size, 2, none⟩ = some (.int .i64 q3) /\ w'.cell? ⟨w4.heap.size, 3, none⟩ = some (.int .i64 q4) /\ w'.cell? ⟨w4.heap.size, 4, none⟩ = some (.int .i64 q5) /\ w'.cell? ⟨w4.heap.size, 5, none⟩ = some (.int .i64 q6)) (go_keep)
  (first
   | (go_at_call 71; refine hy.out.mono ?_; rintro _ w6 ⟨rfl, hb6⟩; (have u1 : ∀ o, w6.cell? ⟨b, o, none⟩ = w5.cell? ⟨b, o, none⟩ := fun o => hb6.cell (p := ⟨b, o, none⟩) bl5); (have u2 : ∀ o, w6.cell? ⟨w4.heap.size, o, none⟩ = w5.cell? ⟨w4.heap.size, o, none⟩ := fun o => hb6.cell (p := ⟨w4.heap.size, o, none⟩) z5))
   | (go_at_call 70; refine (hsm.out _).mono ?_; rintro _ w7 ⟨rfl, hb7⟩; (have y1 : ∀ o, w7.cell? ⟨b, o, none⟩ = w6.cell? ⟨b, o, none⟩ := fun o => hb7.cell (p := ⟨b, o, none⟩) (Nat.lt_of_lt_of_le bl5 hb6.size)); (have y2 : ∀ o, w7.cell? ⟨w4.heap.size, o, none⟩ = w6.cell? ⟨w4.heap.size, o, none⟩ := fun o => hb7.cell (p := ⟨w4.heap.size, o, none⟩) (Nat.lt_of_lt_of_le z5 hb6.size))))
 have hB6 : Below w1.heap.size w1 w6 := HB5.out.trans (((Below.refl _ w5).drew.trans hb6).mono HB5.out.size)
 have fin := hide ((H1.out.stay (hB6.trans (hb7.mono hB6.size))).up HB1.out)
 clear hb6 hb7 u1 u2 y1 y2 hB6 hy hsm c1 r0 r1 r2 r3 r4 r5
 go_wp2
 go_ret
 exact fin.out
set_option maxRecDepth 8000 in
set_option maxHeartbeats 4000000 in
theorem step_oth (w : World) (d : Sd) (wb : Nat) (vs : Value) (no ni : Nat) (F : List Nat) (a l n : Int) (v : Value) (wh : Bool) (cs : List Chg) (h : PW w d wb vs no ni F) (hv : ChgsAt w v cs) (hva : Apart v (d.F ++ F)) (hcl : cs.length <= 6000000000000) (c1 : no <= 8999999999990) (c2 : ni <= 8999999999990) (k : Int) (hk : ¬ k = 8 /\ ¬ k = 9 /\ ¬ k = 10 /\ ¬ k = 11 /\ ¬ k = 12 /\ ¬ k = 13) :
  Calls Tryz.prog 33 #[ptrV wb, ptrV d.b, opV k a l n v wh] w (StP w d wb vs no ni F) := by
 obtain ⟨va, vc, rfl⟩ : ∃ va vc, v = .slice va cs.length vc := by obtain ⟨p, q, h, _⟩ := hv; exact ⟨p, q, h⟩
 have hR := spW w k a l n (.slice va cs.length vc) wh
 obtain ⟨w1, hw1⟩ : ∃ w1, w.alloc (.cells (opB k a l n (.slice va cs.length vc) wh) 85) = w1 := ⟨_, rfl⟩
 rw [hw1] at hR
 have h1 := h.later hR.B
 have o0 : w1.cell? ⟨w.heap.size, 0, none⟩ = some (.int .i64 k) := by simp [World.cell?, hR.ob]
 have o1 : w1.cell? ⟨w.heap.size, 1, none⟩ = some (.int .i64 a) := by simp [World.cell?, hR.ob]
 have o2 : w1.cell? ⟨w.heap.size, 2, none⟩ = some (.int .i64 l) := by simp [World.cell?, hR.ob]
 have o3 : w1.cell? ⟨w.heap.size, 3, none⟩ = some (.int .i64 n) := by simp [World.cell?, hR.ob]
 have o4 : w1.cell? ⟨w.heap.size, 4, none⟩ = some (.slice va cs.length vc) := by simp [World.cell?, hR.ob]
 have o5 : w1.cell? ⟨w.heap.size, 5, none⟩ = some (.bool wh) := by simp [World.cell?, hR.ob]
 have hz := hR.z
 have zo : w.heap.size < w1.heap.size := by omega
 have b0 := h1.p.c0
 have b1 := h1.p.c1
 have bl := h1.p.bl
 have H1 := hide h1
 have H := hide h
 have HOUT := hide h.outside
 have HB1 := hide hR.B
 have hs := h1.p.ok
 have hc := hide (route_y w1 d wb vs no ni F a l n (.slice va cs.length vc) wh cs h1 (hv.later hR.B) hva hcl c1 c2 k)
 obtain ⟨n1, n2, n3, n4, n5, n6⟩ := hk
 have m1 : (k == 8) = false := by simpa using n1
 have m2 : (k == 9) = false := by simpa using n2
 have m3 : (k == 10) = false := by simpa using n3
 have m4 : (k == 11) = false := by simpa using n4
 have m5 : (k == 12) = false := by simpa using n5
 have m6 : (k == 13) = false := by simpa using n6
 clear h1 h hs b0 b1 bl hv n1 n2 n3 n4 n5 n6 hva
 go_enter Tryz.func33, Tryz.ntmps33
 go_wp2_with fail
 refine hc.out.mono ?_
 rintro _ w5 hp5
 obtain ⟨rfl, -⟩ := id hp5
 have fin := hide (hp5.up HB1.out)
 clear hp5 hc
 go_wp2
 go_ret
 exact fin.out
theorem step_y (w : World) (d : Sd) (wb : Nat) (vs : Value) (no ni : Nat) (F : List Nat) (a l n : Int) (v : Value) (wh : Bool) (cs : List Chg) (h : PW w d wb vs no ni F) (hv : ChgsAt w v cs) (hva : Apart v (d.F ++ F)) (hcl : cs.length <= 6000000000000) (b1 : no <= 8999999999990) (b2 : ni <= 8999999999990) (k : Int) :
  Calls Tryz.prog 33 #[ptrV wb, ptrV d.b, opV k a l n v wh] w (StP w d wb vs no ni F) := by
 by_cases k8 : k = 8
 ·subst k8; exact step_cel w d wb vs no ni F a l n v wh cs h hv
 by_cases k9 : k = 9
 ·subst k9; exact step_adv w d wb vs no ni F a l n v wh cs h hv
 by_cases k10 : k = 10
 ·subst k10; exact step_mov w d wb vs no ni F a l n v wh cs h hv
 by_cases k11 : k = 11
 ·subst k11; exact step_stp w d wb vs no ni F a l n v wh cs h hv
 by_cases k12 : k = 12
 ·subst k12; exact step_abo w d wb vs no ni F a l n v wh cs h hv
 by_cases k13 : k = 13
 ·subst k13; exact step_sta w d wb vs no ni F a l n v wh cs h hv
 exact step_oth w d wb vs no ni F a l n v wh cs h hv hva hcl b1 b2 k ⟨k8, k9, k10, k11, k12, k13⟩
end Go.Proofs.YtglbamalagacgaaGreat

namespace Go.Proofs.YtglbamalagacgaaGreat
open Go.RowKit Go.Shelf
attribute [local go_sem] Oper.semAt_some
def pw2 (j : Nat) : Int := ((2 ^ j : Nat) : Int)
theorem pw2_bd {j : Nat} (h : j <= 8) : 1 <= pw2 j /\ pw2 j <= 256 /\ 2 * pw2 j = pw2 (j + 1) := by
 have e1 : j = 0 ∨ j = 1 ∨ j = 2 ∨ j = 3 ∨ j = 4 ∨ j = 5 ∨ j = 6 ∨ j = 7 ∨ j = 8 := by omega
 rcases e1 with rfl | rfl | rfl | rfl | rfl | rfl | rfl | rfl | rfl <;> decide
set_option maxRecDepth 4000 in
set_option maxHeartbeats 1000000 in
theorem next_y (a : Int) (h0 : 0 <= a) (w : World) :
  Calls Tryz.prog 75 #[.int .i64 a] w fun r w' => (∃ n, 0 <= n /\ n <= 8 /\ r = .returned (pfxV a n)) /\ Below w.heap.size w w' := by
 go_enter Tryz.func75, Tryz.ntmps75
 go_wp2
 go_loopw [3, 4] (fun s3 s4 wr => ∃ j : Nat, j <= 8 /\ s3 = .int .i64 (8 - (j : Int)) /\ s4 = .int .i64 (pw2 j) /\ Hid (wr = w.alloc (.cells #[.int .i64 0, .int .i64 0] 65))) (fun s3 _ _ => (intOf s3).toNat)
 case atStart => exact ⟨0, by omega, rfl, rfl, hide rfl⟩
 case round =>
  obtain ⟨j, hj, rfl, rfl, HW⟩ := hrel
  obtain ⟨q1, q2, q3⟩ := pw2_bd hj
  have HQ := hide q3
  have hw0 : IntKind.i64.wrap (2 * pw2 j) = 2 * pw2 j := by rw [IntKind.wrap_i64]; omega
  have hw1 : IntKind.i64.wrap (8 - (j : Int) - 1) = 8 - (j : Int) - 1 := by rw [IntKind.wrap_i64]; omega
  have p0 : (0 : Int) < 2 * pw2 j := by omega
  have p1 : ¬ 2 * pw2 j = 0 := by omega
  have p2 : ¬ pw2 j = 0 := by omega
  have fin := hide (show ∀ n : Int, n = 8 - (j : Int) -> (∃ n', 0 <= n' /\ n' <= 8 /\ Ending.returned (pfxV a n) = .returned (pfxV a n')) from fun n hn => ⟨n, by omega, by omega, rfl⟩)
  have hwe := HW.out
  by_cases hlt : j < 8
  ·have j1 : (0 : Int) < 8 - (j : Int) := by omega
   have d1 : decide ((0 : Int) < 8 - (j : Int)) = true := decide_eq_true j1
   by_cases hm : a % (2 * pw2 j) = 0
   ·have dm : (a % (2 * pw2 j) == 0) = true := by simpa using hm
    have next := hide (show ∃ j' : Nat, j' <= 8 /\ Value.int .i64 (8 - (j : Int) - 1) = .int .i64 (8 - (j' : Int)) /\ Value.int .i64 (2 * pw2 j) = .int .i64 (pw2 j') /\ Hid (wr = w.alloc (.cells #[.int .i64 0, .int .i64 0] 65)) from ⟨j + 1, by omega, by congr 1; omega, by rw [HQ.out], HW⟩)
    clear q3 hm hwe
    go_wp2
    exact ⟨next.out, by simp [intOf]; omega⟩
   ·have dm : (a % (2 * pw2 j) == 0) = false := by simpa using hm
    subst hwe
    clear q3 hm
    go_wp2
    refine bodyPost_ret (v := pfxV a (8 - (j : Int))) (by simp [results, Tryz.results75, go_sem, *]) rfl ⟨fin.out _ rfl, ?_⟩
    exact (by repeat (first | exact Below.refl _ _ | refine below_drewN ?_ _ | refine Below.drew ?_ | refine Below.trans ?_ (Below.mono (by assumption) ?_) | refine Below.alloc ?_ ?_ _ | refine Below.setCell ?_ ?_ _ | omega | (simp; omega) | simp))
  ·obtain rfl : j = 8 := by omega
   subst hwe
   clear q3
   go_wp2
   refine bodyPost_ret (v := pfxV a 0) (by simp [results, Tryz.results75, go_sem, *]) rfl ⟨fin.out _ rfl, ?_⟩
   exact (by repeat (first | exact Below.refl _ _ | refine below_drewN ?_ _ | refine Below.drew ?_ | refine Below.trans ?_ (Below.mono (by assumption) ?_) | refine Below.alloc ?_ ?_ _ | refine Below.setCell ?_ ?_ _ | omega | (simp; omega) | simp))
end Go.Proofs.YtglbamalagacgaaGreat

namespace Go.Proofs.YtglbamalagacgaaGreat
open Go.RowKit Go.Shelf
structure SAcc (w : World) (d : Sd) (F : List Nat) (wb : Nat) (vs : Value) (wr : World) (d' : Sd) (F' : List Nat) (no ni : Nat) : Prop where
 pw : PW wr d' wb vs no ni F'
 b : d'.b = d.b
 new : NewF w (d.F ++ F) (d'.F ++ F')
 only : Only (d.F ++ F) w wr
section
variable {w wr W w' : World} {d d' : Sd} {F F' : List Nat} {wb : Nat} {vs : Value} {no ni : Nat} {r : Ending}
theorem SAcc.start (h : PW w d wb vs no ni F) : SAcc w d F wb vs w d F no ni := ⟨h, rfl, NewF.refl _ _, Only.refl _ _⟩
theorem SAcc.later (h : SAcc w d F wb vs wr d' F' no ni) (hB : Below wr.heap.size wr W) : SAcc w d F wb vs W d' F' no ni := ⟨h.pw.later hB, h.b, h.new, h.only.trans (Only.of_below [] hB) fun x hx => by cases hx⟩
theorem SAcc.step (h : SAcc w d F wb vs wr d' F' no ni) (hp : StP wr d' wb vs no ni F' r W) : r = .returned (.bool true) /\ ∃ d'' F'' no'' ni'', SAcc w d F wb vs W d'' F'' no'' ni'' /\ no'' <= no + 4 /\ ni'' <= ni + 1 /\ NewF wr (d'.F ++ F') (d''.F ++ F'') /\ Only (d'.F ++ F') wr W := by
 obtain ⟨h1, d'', F'', no'', ni'', h2, h3, h4, h5, h6, h7⟩ := hp
 exact ⟨h1, d'', F'', no'', ni'', ⟨h2, h3.trans h.b, h.new.trans h6 h.only.size, h.only.trans h7 h.new⟩, h4, h5, h6, h7⟩
theorem SAcc.page {no' : Nat} (h : SAcc w d F wb vs wr d' F' no ni) (hp : PgP wr d' wb vs F' no' ni (.bool true) r W) : r = .returned (.bool true) /\ ∃ F'', SAcc w d F wb vs W d' F'' no' ni /\ NewF wr F' F'' /\ Only F' wr W := by
 obtain ⟨h1, F'', h2, h3, h4⟩ := hp
 have hz := h.only.size
 refine ⟨h1, F'', ⟨h2, h.b, fun k hk => ?_, h.only.trans h4 fun x hx => h.new x (List.mem_append.2 (.inr hx))⟩, h3, h4⟩
 rcases List.mem_append.1 hk with h5 | h5
 ·exact h.new k (List.mem_append.2 (.inl h5))
 ·exact (h3 k h5).elim (fun h6 => h.new k (List.mem_append.2 (.inr h6))) fun h6 => .inr (by omega)
theorem SAcc.box {pb : Nat} (h : SAcc w d F wb vs wr d' F' no ni) (hn : pb ∉ d'.F ++ F') (hw : w.heap.size <= pb) (hO : Only [pb] wr W) : SAcc w d F wb vs W d' F' no ni :=
 ⟨⟨h.pw.p.kept fun k hk => hO.block k (h.pw.p.lt k hk) fun hm => hn (by rw [<- (by simpa using hm : k = pb)]; exact List.mem_append.2 (.inl hk)), h.pw.W.kept hO.size fun k hk => hO.block k (h.pw.W.lt k hk) fun hm => hn (by rw [<- (by simpa using hm : k = pb)]; exact List.mem_append.2 (.inr hk)), h.pw.dis⟩, h.b, h.new, h.only.trans hO fun x hx => .inr (by rw [(by simpa using hx : x = pb)]; exact hw)⟩
def EnP (w : World) (d : Sd) (wb : Nat) (vs : Value) (no ni : Nat) (F : List Nat) (r : Ending) (w' : World) : Prop := r = .returned (.bool true) /\ ∃ d' F' no' ni', SAcc w d F wb vs w' d' F' no' ni' /\ no' <= no + 20000 /\ ni' <= ni + 1000
end
theorem nil_chg (w : World) : ChgsAt w (.slice none 0 0) [] := ⟨none, 0, rfl, Nat.zero_le _, fun i x hx => by simp at hx⟩
theorem nil_apart (F : List Nat) : Apart (.slice none 0 0) F := fun A n cap he hn => by cases he
theorem pag_last {xs : List Ent} (hk : ∀ x ∈ xs, okE x) {fa fl : Int} {N : Nat} (hN : 1 <= N) (hl : (pagL xs fa fl (N : Int)).length = N) : ∃ x, (pagL xs fa fl (N : Int))[N - 1]? = some x /\ okE x /\ 9 * fa + fl <= 9 * x.a + x.l := by
 obtain ⟨x, hx⟩ : ∃ x, (pagL xs fa fl (N : Int))[N - 1]? = some x := ⟨_, List.getElem?_eq_getElem (by omega)⟩
 have hm := List.mem_of_getElem? hx
 unfold pagL at hm
 split at hm
 ·rename_i he
  have hp : isPfx fa fl = true := by
   unfold pagE at he
   split at he
   ·cases he
   ·rename_i h; simpa using h
  have h2 := List.mem_of_mem_take hm
  rw [from_fr hk hp] at h2
  obtain ⟨h3, h4⟩ := List.mem_filter.1 h2
  have h5 := (isPfx_iff _ _).1 (hk x h3).1
  have h6 := (isPfx_iff _ _).1 hp
  simp only [decide_eq_true_eq] at h4
  unfold rkE at h4
  exact ⟨x, hx, hk x h3, by omega⟩
 ·cases hm
theorem pag_le (xs : List Ent) (fa fl : Int) (N : Nat) : (pagL xs fa fl (N : Int)).length <= N := by
 unfold pagL
 split
 ·rw [List.length_take]; simp; omega
 ·simp
theorem box_set {w : World} {pb : Nat} {u0 u1 : Value} (hb : w.heap[pb]? = some (.cells #[u0, u1] 65 (0, 0))) (a l : Value) : Only [pb] w ((w.setCell ⟨pb, 0, none⟩ a).setCell ⟨pb, 1, none⟩ l) /\ ((w.setCell ⟨pb, 0, none⟩ a).setCell ⟨pb, 1, none⟩ l).heap[pb]? = some (.cells #[a, l] 65 (0, 0)) := by
 have a1 := setW hb 0 a
 have b1 := setW a1 1 l
 exact ⟨(only_set (by simp)).trans (only_set (F := [pb]) (by simp)) fun x hx => .inl hx, b1⟩
def rkW (w : World) (pb : Nat) : Nat := match w.cell? ⟨pb, 0, none⟩, w.cell? ⟨pb, 1, none⟩ with
 | some (.int _ a), some (.int _ l) => (9 * a + l).toNat
 | _, _ => 0
theorem rkW_eq {w : World} {pb : Nat} {a l : Int} (h : w.heap[pb]? = some (.cells #[.int .i64 a, .int .i64 l] 65 (0, 0))) : rkW w pb = (9 * a + l).toNat := by
 unfold rkW
 simp [World.cell?, h]
end Go.Proofs.YtglbamalagacgaaGreat

import Derived.Test.YtglbamalagacgaaGreatX1
import Derived.BigRegion
namespace Go.Proofs.YtglbamalagacgaaGreat
open Go.RowKit Go.Shelf
attribute [local go_sem] Oper.semAt_some
structure RtW (w w1 : World) (k a l n : Int) (v : Value) (wh : Bool) : Prop where
 B : Below w.heap.size w w1
 ob : w1.heap[w.heap.size]? = some (.cells (opB k a l n v wh) 85 (0, 0))
 pb : w1.heap[w.heap.size + 1]? = some (.cells #[.int .i64 a, .int .i64 l] 65 (0, 0))
 z : w1.heap.size = w.heap.size + 2
theorem rtW (w : World) (k a l n : Int) (v : Value) (wh : Bool) : RtW w ((w.alloc (.cells (opB k a l n v wh) 85)).alloc (.cells #[.int .i64 a, .int .i64 l] 65)) k a l n v wh := by
 have hB : Below w.heap.size w (w.alloc (.cells (opB k a l n v wh) 85)) := (Below.refl _ w).alloc (Nat.le_refl _) _
 refine ⟨hB.alloc hB.size _, ?_, ?_, by simp⟩
 ·exact (Below.heap_alloc _ _ _ (by simp)).trans (World.alloc_heap_new w _)
 ·have := World.alloc_heap_new (w.alloc (.cells (opB k a l n v wh) 85)) (.cells #[.int .i64 a, .int .i64 l] 65)
  rwa [World.size_alloc] at this
section
variable {w w1 W : World} {d : Sd} {wb : Nat} {vs : Value} {no ni : Nat} {F : List Nat} {r : Ending}
theorem StP.up (h : StP w1 d wb vs no ni F r W) (hB : Below w.heap.size w w1) : StP w d wb vs no ni F r W := by
 obtain ⟨h1, d', F', no', ni', h2, h3, h4, h5, h6, h7⟩ := h
 have := hB.size
 exact ⟨h1, d', F', no', ni', h2, h3, h4, h5, fun k hk => (h6 k hk).imp id fun h => by omega, (Only.of_below _ hB).trans h7 fun x hx => .inl hx⟩
theorem PW.outside (h : PW w d wb vs no ni F) : ∀ g, w.heap.size <= g -> g ∉ d.F := fun g hg hm => by have := h.p.lt g hm; omega
theorem MidY.cb {s' : TS} {A1 : List Nat} (h0 : Pr w d) (h : MidY w W d s' A1) (o : Nat) : W.cell? ⟨d.b, o, none⟩ = w.cell? ⟨d.b, o, none⟩ := by simp only [World.cell?, h.blk, h0.blk]
theorem MidY.ck {s' : TS} {A1 : List Nat} (h : MidY w W d s' A1) {g : Nat} (hg : g < w.heap.size) (hn : g ∉ d.F) (o : Nat) : W.cell? ⟨g, o, none⟩ = w.cell? ⟨g, o, none⟩ := World.cell?_of_block (a := ⟨g, o, none⟩) (h.only.block g hg fun hm => hn (Sd.mem.2 (.inr (.inl hm))))
theorem Did.cb {d' : Sd} (h0 : Pr w d) (h : Did w d d' W) (o : Nat) : W.cell? ⟨d.b, o, none⟩ = w.cell? ⟨d.b, o, none⟩ := by
 have h1 := h.1.blk
 rw [h.2.1, h.2.2.1, h.2.2.2.1] at h1
 simp only [World.cell?, h1, h0.blk]
theorem Did.ck {d' : Sd} (h : Did w d d' W) {g : Nat} (hg : g < w.heap.size) (hn : g ∉ d.F) (o : Nat) : W.cell? ⟨g, o, none⟩ = w.cell? ⟨g, o, none⟩ := World.cell?_of_block (a := ⟨g, o, none⟩) (h.2.2.2.2.2.block g hg hn)
end
set_option maxRecDepth 8000 in
set_option maxHeartbeats 4000000 in
theorem route_add (w : World) (d : Sd) (wb : Nat) (vs : Value) (no ni : Nat) (F : List Nat) (a l n : Int) (v : Value) (wh : Bool) (cs : List Chg) (h : PW w d wb vs no ni F) (hv : ChgsAt w v cs) :
  Calls Tryz.prog 72 #[ptrV wb, ptrV d.b, opV 1 a l n v wh] w (StP w d wb vs no ni F) := by
 obtain ⟨va, vc, rfl⟩ : ∃ va vc, v = .slice va cs.length vc := by obtain ⟨p, q, h, _⟩ := hv; exact ⟨p, q, h⟩
 have hR := rtW w 1 a l n (.slice va cs.length vc) wh
 obtain ⟨w1, hw1⟩ : ∃ w1, (w.alloc (.cells (opB 1 a l n (.slice va cs.length vc) wh) 85)).alloc (.cells #[.int .i64 a, .int .i64 l] 65) = w1 := ⟨_, rfl⟩
 rw [hw1] at hR
 have h1 := h.later hR.B
 have o0 : w1.cell? ⟨w.heap.size, 0, none⟩ = some (.int .i64 1) := by simp [World.cell?, hR.ob]
 have o1 : w1.cell? ⟨w.heap.size, 1, none⟩ = some (.int .i64 a) := by simp [World.cell?, hR.ob]
 have o2 : w1.cell? ⟨w.heap.size, 2, none⟩ = some (.int .i64 l) := by simp [World.cell?, hR.ob]
 have o3 : w1.cell? ⟨w.heap.size, 3, none⟩ = some (.int .i64 n) := by simp [World.cell?, hR.ob]
 have o4 : w1.cell? ⟨w.heap.size, 4, none⟩ = some (.slice va cs.length vc) := by simp [World.cell?, hR.ob]
 have o5 : w1.cell? ⟨w.heap.size, 5, none⟩ = some (.bool wh) := by simp [World.cell?, hR.ob]
 have p0 : w1.cell? ⟨w.heap.size + 1, 0, none⟩ = some (.int .i64 a) := by simp [World.cell?, hR.pb]
 have p1 : w1.cell? ⟨w.heap.size + 1, 1, none⟩ = some (.int .i64 l) := by simp [World.cell?, hR.pb]
 have hz := hR.z
 have zo : w.heap.size < w1.heap.size := by omega
 have zp : w.heap.size + 1 < w1.heap.size := by omega
 have b0 := h1.p.c0
 have b1 := h1.p.c1
 have bl := h1.p.bl
 have H1 := hide h1
 have H := hide h
 have HOUT := hide h.outside
 have HB1 := hide hR.B
 have hs := h1.p.ok
 have hx := hide ((h1.p.T.later (Below.refl _ w1).drew).add a l n)
 have HD := hide (show d = ⟨d.b, d.x, d.y, d.s, d.A, d.A'⟩ from rfl)
 obtain ⟨b, hb⟩ : ∃ b, d.b = b := ⟨_, rfl⟩
 obtain ⟨x, hxx⟩ : ∃ x, d.x = x := ⟨_, rfl⟩
 obtain ⟨y, hyy⟩ : ∃ y, d.y = y := ⟨_, rfl⟩
 have HY := hide (show ∀ W s' A1, MidY w1 W d s' A1 -> Calls Tryz.prog 111 #[ptrV d.y, pfxV a l, .int .i64 n] W.drew (RTurn W.drew d.y d.A' (.int .i64 (d.s.add a l n).1) (d.s.add a l n).2) from fun W s' A1 hm => add_r W.drew d.y d.s d.A' a l n (hm.R.later (Below.refl _ W).drew) hs)
 rw [hb] at b0 b1 bl
 rw [hxx] at b0 hx
 rw [hyy] at b1 HY
 rw [hb]
 have HBB := hide hb
 have HYY := hide hyy
 have HXX := hide hxx
 clear h1 h hv hs hb hxx hyy
 go_enter Tryz.func72, Tryz.ntmps72
 go_wp2
 go_region_held3 (fun w' => w'.cell? ⟨b, 0, none⟩ = some (ptrV x) /\ w'.cell? ⟨w.heap.size + 1, 0, none⟩ = some (.int .i64 a) /\ w'.cell? ⟨w.heap.size + 1, 1, none⟩ = some (.int .i64 l) /\ w'.cell? ⟨w.heap.size, 3, none⟩ = some (.int .i64 n)) (go_keep)
  (first | (go_at_call 59; refine hx.out.mono ?_; rintro _ w4 hp4; (obtain ⟨rfl, A1, hm4⟩ := H1.out.p.mid (Below.refl _ w1).drew (by rw [HXX.out]; exact hp4)); (have u1 : ∀ o, w4.cell? ⟨b, o, none⟩ = w1.cell? ⟨b, o, none⟩ := by (rw [<- HBB.out]; exact hm4.cb H1.out.p)); (have u2 : ∀ o, w4.cell? ⟨w.heap.size, o, none⟩ = w1.cell? ⟨w.heap.size, o, none⟩ := hm4.ck zo (HOUT.out _ (Nat.le_refl _))); (have u3 : ∀ o, w4.cell? ⟨w.heap.size + 1, o, none⟩ = w1.cell? ⟨w.heap.size + 1, o, none⟩ := hm4.ck zp (HOUT.out _ (by omega)))))
 have hy := hide (HY.out w4 _ A1 hm4)
 have c1 := (u1 1).trans b1
 have c2 := (u2 3).trans o3
 have c3 := (u3 0).trans p0
 have c4 := (u3 1).trans p1
 have zs := hm4.only.size
 have bl4 : b < w4.heap.size := by omega
 have zo4 : w.heap.size < w4.heap.size := by omega
 have zp4 : w.heap.size + 1 < w4.heap.size := by omega
 have HM4 := hide hm4
 clear hx HY hp4 hm4 o0 o1 o2 o3 o4 o5 p0 p1 b0 b1 u1 u2 u3 hw1
 go_wp2
 go_region_held3 (fun w' => w'.cell? ⟨b, 1, none⟩ = some (ptrV y) /\ w'.cell? ⟨w.heap.size + 1, 0, none⟩ = some (.int .i64 a) /\ w'.cell? ⟨w.heap.size + 1, 1, none⟩ = some (.int .i64 l) /\ w'.cell? ⟨w.heap.size, 3, none⟩ = some (.int .i64 n)) (go_keep)
  (first | (go_at_call 111; refine hy.out.mono ?_; rintro _ w5 hp5; (obtain ⟨rfl, A1', hd5⟩ := HM4.out.done H1.out.p (Below.refl _ w4).drew (by rw [HYY.out]; exact hp5)); (have v1 : ∀ o, w5.cell? ⟨b, o, none⟩ = w4.cell? ⟨b, o, none⟩ := by (intro o; rw [<- HBB.out]; exact (hd5.cb H1.out.p o).trans (HM4.out.cb H1.out.p o).symm)); (have v2 : ∀ o, w5.cell? ⟨w.heap.size, o, none⟩ = w4.cell? ⟨w.heap.size, o, none⟩ := fun o => (hd5.ck zo (HOUT.out _ (Nat.le_refl _)) o).trans (HM4.out.ck zo (HOUT.out _ (Nat.le_refl _)) o).symm); (have v3 : ∀ o, w5.cell? ⟨w.heap.size + 1, o, none⟩ = w4.cell? ⟨w.heap.size + 1, o, none⟩ := fun o => (hd5.ck zp (HOUT.out _ (by omega)) o).trans (HM4.out.ck zp (HOUT.out _ (by omega)) o).symm)))
 have fin := hide ((H1.out.stp hd5).up HB1.out)
 clear hd5 v1 v2 v3 hp5 hy c1 c2 c3 c4
 go_wp2
 go_ret
 exact fin.out
set_option maxRecDepth 8000 in
set_option maxHeartbeats 4000000 in
theorem route_del (w : World) (d : Sd) (wb : Nat) (vs : Value) (no ni : Nat) (F : List Nat) (a l n : Int) (v : Value) (wh : Bool) (cs : List Chg) (h : PW w d wb vs no ni F) (hv : ChgsAt w v cs) :
  Calls Tryz.prog 72 #[ptrV wb, ptrV d.b, opV 2 a l n v wh] w (StP w d wb vs no ni F) := by
 obtain ⟨va, vc, rfl⟩ : ∃ va vc, v = .slice va cs.length vc := by obtain ⟨p, q, h, _⟩ := hv; exact ⟨p, q, h⟩
 have hR := rtW w 2 a l n (.slice va cs.length vc) wh
 obtain ⟨w1, hw1⟩ : ∃ w1, (w.alloc (.cells (opB 2 a l n (.slice va cs.length vc) wh) 85)).alloc (.cells #[.int .i64 a, .int .i64 l] 65) = w1 := ⟨_, rfl⟩
 rw [hw1] at hR
 have h1 := h.later hR.B
 have o0 : w1.cell? ⟨w.heap.size, 0, none⟩ = some (.int .i64 2) := by simp [World.cell?, hR.ob]
 have o1 : w1.cell? ⟨w.heap.size, 1, none⟩ = some (.int .i64 a) := by simp [World.cell?, hR.ob]
 have o2 : w1.cell? ⟨w.heap.size, 2, none⟩ = some (.int .i64 l) := by simp [World.cell?, hR.ob]
 have o3 : w1.cell? ⟨w.heap.size, 3, none⟩ = some (.int .i64 n) := by simp [World.cell?, hR.ob]
 have o4 : w1.cell? ⟨w.heap.size, 4, none⟩ = some (.slice va cs.length vc) := by simp [World.cell?, hR.ob]
 have o5 : w1.cell? ⟨w.heap.size, 5, none⟩ = some (.bool wh) := by simp [World.cell?, hR.ob]
 have p0 : w1.cell? ⟨w.heap.size + 1, 0, none⟩ = some (.int .i64 a) := by simp [World.cell?, hR.pb]
 have p1 : w1.cell? ⟨w.heap.size + 1, 1, none⟩ = some (.int .i64 l) := by simp [World.cell?, hR.pb]
 have hz := hR.z
 have zo : w.heap.size < w1.heap.size := by omega
 have zp : w.heap.size + 1 < w1.heap.size := by omega
 have b0 := h1.p.c0
 have b1 := h1.p.c1
 have bl := h1.p.bl
 have H1 := hide h1
 have H := hide h
 have HOUT := hide h.outside
 have HB1 := hide hR.B
 have hs := h1.p.ok
 have hx := hide ((h1.p.T.later (Below.refl _ w1).drew).del a l)
 have HD := hide (show d = ⟨d.b, d.x, d.y, d.s, d.A, d.A'⟩ from rfl)
 obtain ⟨b, hb⟩ : ∃ b, d.b = b := ⟨_, rfl⟩
 obtain ⟨x, hxx⟩ : ∃ x, d.x = x := ⟨_, rfl⟩
 obtain ⟨y, hyy⟩ : ∃ y, d.y = y := ⟨_, rfl⟩
 have HY := hide (show ∀ W s' A1, MidY w1 W d s' A1 -> Calls Tryz.prog 112 #[ptrV d.y, pfxV a l] W.drew (RTurn W.drew d.y d.A' (.int .i64 (d.s.one a l 0).1) (d.s.one a l 0).2) from fun W s' A1 hm => del_r W.drew d.y d.s d.A' a l (hm.R.later (Below.refl _ W).drew) hs)
 rw [hb] at b0 b1 bl
 rw [hxx] at b0 hx
 rw [hyy] at b1 HY
 rw [hb]
 have HBB := hide hb
 have HYY := hide hyy
 have HXX := hide hxx
 clear h1 h hv hs hb hxx hyy
 go_enter Tryz.func72, Tryz.ntmps72
 go_wp2
 go_region_held3 (fun w' => w'.cell? ⟨b, 0, none⟩ = some (ptrV x) /\ w'.cell? ⟨w.heap.size + 1, 0, none⟩ = some (.int .i64 a) /\ w'.cell? ⟨w.heap.size + 1, 1, none⟩ = some (.int .i64 l)) (go_keep)
  (first | (go_at_call 60; refine hx.out.mono ?_; rintro _ w4 hp4; (obtain ⟨rfl, A1, hm4⟩ := H1.out.p.mid (Below.refl _ w1).drew (by rw [HXX.out]; exact hp4)); (have u1 : ∀ o, w4.cell? ⟨b, o, none⟩ = w1.cell? ⟨b, o, none⟩ := by (rw [<- HBB.out]; exact hm4.cb H1.out.p)); (have u2 : ∀ o, w4.cell? ⟨w.heap.size, o, none⟩ = w1.cell? ⟨w.heap.size, o, none⟩ := hm4.ck zo (HOUT.out _ (Nat.le_refl _))); (have u3 : ∀ o, w4.cell? ⟨w.heap.size + 1, o, none⟩ = w1.cell? ⟨w.heap.size + 1, o, none⟩ := hm4.ck zp (HOUT.out _ (by omega)))))
 have hy := hide (HY.out w4 _ A1 hm4)
 have c1 := (u1 1).trans b1
 have c2 := (u2 3).trans o3
 have c3 := (u3 0).trans p0
 have c4 := (u3 1).trans p1
 have zs := hm4.only.size
 have bl4 : b < w4.heap.size := by omega
 have zo4 : w.heap.size < w4.heap.size := by omega
 have zp4 : w.heap.size + 1 < w4.heap.size := by omega
 have HM4 := hide hm4
 clear hx HY hp4 hm4 o0 o1 o2 o3 o4 o5 p0 p1 b0 b1 u1 u2 u3 hw1
 go_wp2
 go_region_held3 (fun w' => w'.cell? ⟨b, 1, none⟩ = some (ptrV y) /\ w'.cell? ⟨w.heap.size + 1, 0, none⟩ = some (.int .i64 a) /\ w'.cell? ⟨w.heap.size + 1, 1, none⟩ = some (.int .i64 l)) (go_keep)
  (first | (go_at_call 112; refine hy.out.mono ?_; rintro _ w5 hp5; (obtain ⟨rfl, A1', hd5⟩ := HM4.out.done H1.out.p (Below.refl _ w4).drew (by rw [HYY.out]; exact hp5)); (have v1 : ∀ o, w5.cell? ⟨b, o, none⟩ = w4.cell? ⟨b, o, none⟩ := by (intro o; rw [<- HBB.out]; exact (hd5.cb H1.out.p o).trans (HM4.out.cb H1.out.p o).symm)); (have v2 : ∀ o, w5.cell? ⟨w.heap.size, o, none⟩ = w4.cell? ⟨w.heap.size, o, none⟩ := fun o => (hd5.ck zo (HOUT.out _ (Nat.le_refl _)) o).trans (HM4.out.ck zo (HOUT.out _ (Nat.le_refl _)) o).symm); (have v3 : ∀ o, w5.cell? ⟨w.heap.size + 1, o, none⟩ = w4.cell? ⟨w.heap.size + 1, o, none⟩ := fun o => (hd5.ck zp (HOUT.out _ (by omega)) o).trans (HM4.out.ck zp (HOUT.out _ (by omega)) o).symm)))
 have fin := hide ((H1.out.stp hd5).up HB1.out)
 clear hd5 v1 v2 v3 hp5 hy c1 c2 c3 c4
 go_wp2
 go_ret
 exact fin.out
set_option maxRecDepth 8000 in
set_option maxHeartbeats 4000000 in
theorem route_set (w : World) (d : Sd) (wb : Nat) (vs : Value) (no ni : Nat) (F : List Nat) (a l n : Int) (v : Value) (wh : Bool) (cs : List Chg) (h : PW w d wb vs no ni F) (hv : ChgsAt w v cs) :
  Calls Tryz.prog 72 #[ptrV wb, ptrV d.b, opV 7 a l n v wh] w (StP w d wb vs no ni F) := by
 obtain ⟨va, vc, rfl⟩ : ∃ va vc, v = .slice va cs.length vc := by obtain ⟨p, q, h, _⟩ := hv; exact ⟨p, q, h⟩
 have hR := rtW w 7 a l n (.slice va cs.length vc) wh
 obtain ⟨w1, hw1⟩ : ∃ w1, (w.alloc (.cells (opB 7 a l n (.slice va cs.length vc) wh) 85)).alloc (.cells #[.int .i64 a, .int .i64 l] 65) = w1 := ⟨_, rfl⟩
 rw [hw1] at hR
 have h1 := h.later hR.B
 have o0 : w1.cell? ⟨w.heap.size, 0, none⟩ = some (.int .i64 7) := by simp [World.cell?, hR.ob]
 have o1 : w1.cell? ⟨w.heap.size, 1, none⟩ = some (.int .i64 a) := by simp [World.cell?, hR.ob]
 have o2 : w1.cell? ⟨w.heap.size, 2, none⟩ = some (.int .i64 l) := by simp [World.cell?, hR.ob]
 have o3 : w1.cell? ⟨w.heap.size, 3, none⟩ = some (.int .i64 n) := by simp [World.cell?, hR.ob]
 have o4 : w1.cell? ⟨w.heap.size, 4, none⟩ = some (.slice va cs.length vc) := by simp [World.cell?, hR.ob]
 have o5 : w1.cell? ⟨w.heap.size, 5, none⟩ = some (.bool wh) := by simp [World.cell?, hR.ob]
 have p0 : w1.cell? ⟨w.heap.size + 1, 0, none⟩ = some (.int .i64 a) := by simp [World.cell?, hR.pb]
 have p1 : w1.cell? ⟨w.heap.size + 1, 1, none⟩ = some (.int .i64 l) := by simp [World.cell?, hR.pb]
 have hz := hR.z
 have zo : w.heap.size < w1.heap.size := by omega
 have zp : w.heap.size + 1 < w1.heap.size := by omega
 have b0 := h1.p.c0
 have b1 := h1.p.c1
 have bl := h1.p.bl
 have H1 := hide h1
 have H := hide h
 have HOUT := hide h.outside
 have HB1 := hide hR.B
 have hs := h1.p.ok
 have hx := hide ((h1.p.T.later (Below.refl _ w1).drew).setb n)
 have HD := hide (show d = ⟨d.b, d.x, d.y, d.s, d.A, d.A'⟩ from rfl)
 obtain ⟨b, hb⟩ : ∃ b, d.b = b := ⟨_, rfl⟩
 obtain ⟨x, hxx⟩ : ∃ x, d.x = x := ⟨_, rfl⟩
 obtain ⟨y, hyy⟩ : ∃ y, d.y = y := ⟨_, rfl⟩
 have HY := hide (show ∀ W s' A1, MidY w1 W d s' A1 -> Calls Tryz.prog 116 #[ptrV d.y, .int .i64 n] W.drew (RTurn W.drew d.y d.A' (.int .i64 (d.s.setb n).1) (d.s.setb n).2) from fun W s' A1 hm => setb_r W.drew d.y d.s d.A' n (hm.R.later (Below.refl _ W).drew))
 rw [hb] at b0 b1 bl
 rw [hxx] at b0 hx
 rw [hyy] at b1 HY
 rw [hb]
 have HBB := hide hb
 have HYY := hide hyy
 have HXX := hide hxx
 clear h1 h hv hs hb hxx hyy
 go_enter Tryz.func72, Tryz.ntmps72
 go_wp2
 go_region_held3 (fun w' => w'.cell? ⟨b, 0, none⟩ = some (ptrV x) /\ w'.cell? ⟨w.heap.size, 3, none⟩ = some (.int .i64 n)) (go_keep)
  (first | (go_at_call 39; refine hx.out.mono ?_; rintro _ w4 hp4; (obtain ⟨rfl, A1, hm4⟩ := H1.out.p.mid (Below.refl _ w1).drew (by rw [HXX.out]; exact hp4)); (have u1 : ∀ o, w4.cell? ⟨b, o, none⟩ = w1.cell? ⟨b, o, none⟩ := by (rw [<- HBB.out]; exact hm4.cb H1.out.p)); (have u2 : ∀ o, w4.cell? ⟨w.heap.size, o, none⟩ = w1.cell? ⟨w.heap.size, o, none⟩ := hm4.ck zo (HOUT.out _ (Nat.le_refl _))); (have u3 : ∀ o, w4.cell? ⟨w.heap.size + 1, o, none⟩ = w1.cell? ⟨w.heap.size + 1, o, none⟩ := hm4.ck zp (HOUT.out _ (by omega)))))
 have hy := hide (HY.out w4 _ A1 hm4)
 have c1 := (u1 1).trans b1
 have c2 := (u2 3).trans o3
 have c3 := (u3 0).trans p0
 have c4 := (u3 1).trans p1
 have zs := hm4.only.size
 have bl4 : b < w4.heap.size := by omega
 have zo4 : w.heap.size < w4.heap.size := by omega
 have zp4 : w.heap.size + 1 < w4.heap.size := by omega
 have HM4 := hide hm4
 clear hx HY hp4 hm4 o0 o1 o2 o3 o4 o5 p0 p1 b0 b1 u1 u2 u3 hw1
 go_wp2
 go_region_held3 (fun w' => w'.cell? ⟨b, 1, none⟩ = some (ptrV y) /\ w'.cell? ⟨w.heap.size, 3, none⟩ = some (.int .i64 n)) (go_keep)
  (first | (go_at_call 116; refine hy.out.mono ?_; rintro _ w5 hp5; (obtain ⟨rfl, A1', hd5⟩ := HM4.out.done H1.out.p (Below.refl _ w4).drew (by rw [HYY.out]; exact hp5)); (have v1 : ∀ o, w5.cell? ⟨b, o, none⟩ = w4.cell? ⟨b, o, none⟩ := by (intro o; rw [<- HBB.out]; exact (hd5.cb H1.out.p o).trans (HM4.out.cb H1.out.p o).symm)); (have v2 : ∀ o, w5.cell? ⟨w.heap.size, o, none⟩ = w4.cell? ⟨w.heap.size, o, none⟩ := fun o => (hd5.ck zo (HOUT.out _ (Nat.le_refl _)) o).trans (HM4.out.ck zo (HOUT.out _ (Nat.le_refl _)) o).symm); (have v3 : ∀ o, w5.cell? ⟨w.heap.size + 1, o, none⟩ = w4.cell? ⟨w.heap.size + 1, o, none⟩ := fun o => (hd5.ck zp (HOUT.out _ (by omega)) o).trans (HM4.out.ck zp (HOUT.out _ (by omega)) o).symm)))
 have fin := hide ((H1.out.stp hd5).up HB1.out)
 clear hd5 v1 v2 v3 hp5 hy c1 c2 c3 c4
 go_wp2
 go_ret
 exact fin.out
end Go.Proofs.YtglbamalagacgaaGreat

namespace Go.Proofs.YtglbamalagacgaaGreat
open Go.RowKit Go.Shelf
attribute [local go_sem] Oper.semAt_some
set_option maxRecDepth 8000 in
set_option maxHeartbeats 4000000 in
theorem route_get (w : World) (d : Sd) (wb : Nat) (vs : Value) (no ni : Nat) (F : List Nat) (a l n : Int) (v : Value) (wh : Bool) (cs : List Chg) (h : PW w d wb vs no ni F) (hv : ChgsAt w v cs) :
  Calls Tryz.prog 72 #[ptrV wb, ptrV d.b, opV 4 a l n v wh] w (StP w d wb vs no ni F) := by
 obtain ⟨va, vc, rfl⟩ : ∃ va vc, v = .slice va cs.length vc := by obtain ⟨p, q, h, _⟩ := hv; exact ⟨p, q, h⟩
 have hR := rtW w 4 a l n (.slice va cs.length vc) wh
 obtain ⟨w1, hw1⟩ : ∃ w1, (w.alloc (.cells (opB 4 a l n (.slice va cs.length vc) wh) 85)).alloc (.cells #[.int .i64 a, .int .i64 l] 65) = w1 := ⟨_, rfl⟩
 rw [hw1] at hR
 have h1 := h.later hR.B
 have o0 : w1.cell? ⟨w.heap.size, 0, none⟩ = some (.int .i64 4) := by simp [World.cell?, hR.ob]
 have o1 : w1.cell? ⟨w.heap.size, 1, none⟩ = some (.int .i64 a) := by simp [World.cell?, hR.ob]
 have o2 : w1.cell? ⟨w.heap.size, 2, none⟩ = some (.int .i64 l) := by simp [World.cell?, hR.ob]
 have o3 : w1.cell? ⟨w.heap.size, 3, none⟩ = some (.int .i64 n) := by simp [World.cell?, hR.ob]
 have o4 : w1.cell? ⟨w.heap.size, 4, none⟩ = some (.slice va cs.length vc) := by simp [World.cell?, hR.ob]
 have o5 : w1.cell? ⟨w.heap.size, 5, none⟩ = some (.bool wh) := by simp [World.cell?, hR.ob]
 have p0 : w1.cell? ⟨w.heap.size + 1, 0, none⟩ = some (.int .i64 a) := by simp [World.cell?, hR.pb]
 have p1 : w1.cell? ⟨w.heap.size + 1, 1, none⟩ = some (.int .i64 l) := by simp [World.cell?, hR.pb]
 have hz := hR.z
 have zo : w.heap.size < w1.heap.size := by omega
 have zp : w.heap.size + 1 < w1.heap.size := by omega
 have b0 := h1.p.c0
 have b1 := h1.p.c1
 have bl := h1.p.bl
 have H1 := hide h1
 have H := hide h
 have HOUT := hide h.outside
 have HB1 := hide hR.B
 have hs := h1.p.ok
 have hx := hide ((h1.p.T.later (Below.refl _ w1).drew).get a l)
 have HY := hide (show ∀ W, Below w1.heap.size w1 W -> Calls Tryz.prog 114 #[ptrV d.y, pfxV a l] W.drew (fun r w' => r = .returned (.tuple #[.int .i64 (getR d.s.xs a l).1, .int .i64 (getR d.s.xs a l).2]) /\ Below W.drew.heap.size W.drew w') from fun W hW => get_r W.drew d.y d.s d.A' a l ((h1.later hW).p.R.later (Below.refl _ W).drew) hs.good)
 obtain ⟨b, x, y, s, A, A'⟩ := d
 simp only at b0 b1 bl hx HY
 clear h1 h hv hs
 go_enter Tryz.func72, Tryz.ntmps72
 go_wp2
 go_region_held3 (fun w' => w'.cell? ⟨b, 0, none⟩ = some (ptrV x) /\ w'.cell? ⟨w.heap.size + 1, 0, none⟩ = some (.int .i64 a) /\ w'.cell? ⟨w.heap.size + 1, 1, none⟩ = some (.int .i64 l)) (go_keep)
  (first | (go_at_call 61; refine hx.out.mono ?_; rintro _ w4 ⟨rfl, hb4⟩; (have u1 : ∀ o, w4.cell? ⟨b, o, none⟩ = w1.cell? ⟨b, o, none⟩ := fun o => hb4.cell (p := ⟨b, o, none⟩) bl); (have u2 : ∀ o, w4.cell? ⟨w.heap.size, o, none⟩ = w1.cell? ⟨w.heap.size, o, none⟩ := fun o => hb4.cell (p := ⟨w.heap.size, o, none⟩) zo); (have u3 : ∀ o, w4.cell? ⟨w.heap.size + 1, o, none⟩ = w1.cell? ⟨w.heap.size + 1, o, none⟩ := fun o => hb4.cell (p := ⟨w.heap.size + 1, o, none⟩) zp)))
 have hbw : Below w1.heap.size w1 w4 := (Below.refl _ w1).drew.trans hb4
 have hy := hide (HY.out w4 hbw)
 have c1 := (u1 1).trans b1
 have c2 := (u2 1).trans o1
 have c3 := (u3 0).trans p0
 have c4 := (u3 1).trans p1
 have zs := hbw.size
 have bl4 : b < w4.heap.size := by omega
 have zo4 : w.heap.size < w4.heap.size := by omega
 have zp4 : w.heap.size + 1 < w4.heap.size := by omega
 have HB4 := hide hbw
 clear hx HY hb4 hbw o0 o1 o2 o3 o4 o5 p0 p1 b0 b1 u1 u2 u3 hw1
 go_wp2
 go_region_held3 (fun w' => w'.cell? ⟨b, 1, none⟩ = some (ptrV y) /\ w'.cell? ⟨w.heap.size + 1, 0, none⟩ = some (.int .i64 a) /\ w'.cell? ⟨w.heap.size + 1, 1, none⟩ = some (.int .i64 l)) (go_keep)
  (first | (go_at_call 114; refine hy.out.mono ?_; rintro _ w5 ⟨rfl, hb5⟩; (have v1 : ∀ o, w5.cell? ⟨b, o, none⟩ = w4.cell? ⟨b, o, none⟩ := fun o => hb5.cell (p := ⟨b, o, none⟩) bl4); (have v2 : ∀ o, w5.cell? ⟨w.heap.size, o, none⟩ = w4.cell? ⟨w.heap.size, o, none⟩ := fun o => hb5.cell (p := ⟨w.heap.size, o, none⟩) zo4); (have v3 : ∀ o, w5.cell? ⟨w.heap.size + 1, o, none⟩ = w4.cell? ⟨w.heap.size + 1, o, none⟩ := fun o => hb5.cell (p := ⟨w.heap.size + 1, o, none⟩) zp4)))
 have fin := hide ((H1.out.stay (HB4.out.trans (((Below.refl _ w4).drew.trans hb5).mono HB4.out.size))).up HB1.out)
 clear hb5 v1 v2 v3 hy c1 c2 c3 c4
 go_wp2
 go_ret
 exact fin.out
set_option maxRecDepth 8000 in
set_option maxHeartbeats 4000000 in
theorem route_app (w : World) (d : Sd) (wb : Nat) (vs : Value) (no ni : Nat) (F : List Nat) (a l n : Int) (v : Value) (wh : Bool) (cs : List Chg) (h : PW w d wb vs no ni F) (hv : ChgsAt w v cs) (hva : Apart v (d.F ++ F)) (hcl : cs.length <= 6000000000000) (b2 : ni <= 8999999999990) :
  Calls Tryz.prog 72 #[ptrV wb, ptrV d.b, opV 3 a l n v wh] w (StP w d wb vs no ni F) := by
 obtain ⟨va, vc, rfl⟩ : ∃ va vc, v = .slice va cs.length vc := by obtain ⟨p, q, h, _⟩ := hv; exact ⟨p, q, h⟩
 have hR := rtW w 3 a l n (.slice va cs.length vc) wh
 obtain ⟨w1, hw1⟩ : ∃ w1, (w.alloc (.cells (opB 3 a l n (.slice va cs.length vc) wh) 85)).alloc (.cells #[.int .i64 a, .int .i64 l] 65) = w1 := ⟨_, rfl⟩
 rw [hw1] at hR
 have h1 := h.later hR.B
 have o0 : w1.cell? ⟨w.heap.size, 0, none⟩ = some (.int .i64 3) := by simp [World.cell?, hR.ob]
 have o1 : w1.cell? ⟨w.heap.size, 1, none⟩ = some (.int .i64 a) := by simp [World.cell?, hR.ob]
 have o2 : w1.cell? ⟨w.heap.size, 2, none⟩ = some (.int .i64 l) := by simp [World.cell?, hR.ob]
 have o3 : w1.cell? ⟨w.heap.size, 3, none⟩ = some (.int .i64 n) := by simp [World.cell?, hR.ob]
 have o4 : w1.cell? ⟨w.heap.size, 4, none⟩ = some (.slice va cs.length vc) := by simp [World.cell?, hR.ob]
 have o5 : w1.cell? ⟨w.heap.size, 5, none⟩ = some (.bool wh) := by simp [World.cell?, hR.ob]
 have p0 : w1.cell? ⟨w.heap.size + 1, 0, none⟩ = some (.int .i64 a) := by simp [World.cell?, hR.pb]
 have p1 : w1.cell? ⟨w.heap.size + 1, 1, none⟩ = some (.int .i64 l) := by simp [World.cell?, hR.pb]
 have hz := hR.z
 have zo : w.heap.size < w1.heap.size := by omega
 have zp : w.heap.size + 1 < w1.heap.size := by omega
 have b0 := h1.p.c0
 have b1 := h1.p.c1
 have bl := h1.p.bl
 have H1 := hide h1
 have H := hide h
 have HOUT := hide h.outside
 have HB1 := hide hR.B
 have hs := h1.p.ok
 have hc := hide (applies_y w1 d wb vs no ni F 3 a l n (.slice va cs.length vc) wh cs h1 (hv.later hR.B) hva hcl b2)
 clear h1 h hs b0 b1 bl hv hva p0 p1
 go_enter Tryz.func72, Tryz.ntmps72
 go_wp2_with fail
 refine hc.out.mono ?_
 rintro _ w5 hp5
 obtain ⟨rfl, -⟩ := id hp5
 have fin := hide (hp5.up HB1.out)
 clear hp5 hc
 go_wp2
 go_ret
 exact fin.out
set_option maxRecDepth 8000 in
set_option maxHeartbeats 4000000 in
theorem route_pag (w : World) (d : Sd) (wb : Nat) (vs : Value) (no ni : Nat) (F : List Nat) (a l n : Int) (v : Value) (wh : Bool) (cs : List Chg) (h : PW w d wb vs no ni F) (hv : ChgsAt w v cs) (b1' : no <= 8999999999990) (b2 : ni <= 9000000000000) :
  Calls Tryz.prog 72 #[ptrV wb, ptrV d.b, opV 6 a l n v wh] w (StP w d wb vs no ni F) := by
 obtain ⟨va, vc, rfl⟩ : ∃ va vc, v = .slice va cs.length vc := by obtain ⟨p, q, h, _⟩ := hv; exact ⟨p, q, h⟩
 have hR := rtW w 6 a l n (.slice va cs.length vc) wh
 obtain ⟨w1, hw1⟩ : ∃ w1, (w.alloc (.cells (opB 6 a l n (.slice va cs.length vc) wh) 85)).alloc (.cells #[.int .i64 a, .int .i64 l] 65) = w1 := ⟨_, rfl⟩
 rw [hw1] at hR
 have h1 := h.later hR.B
 have o0 : w1.cell? ⟨w.heap.size, 0, none⟩ = some (.int .i64 6) := by simp [World.cell?, hR.ob]
 have o1 : w1.cell? ⟨w.heap.size, 1, none⟩ = some (.int .i64 a) := by simp [World.cell?, hR.ob]
 have o2 : w1.cell? ⟨w.heap.size, 2, none⟩ = some (.int .i64 l) := by simp [World.cell?, hR.ob]
 have o3 : w1.cell? ⟨w.heap.size, 3, none⟩ = some (.int .i64 n) := by simp [World.cell?, hR.ob]
 have o4 : w1.cell? ⟨w.heap.size, 4, none⟩ = some (.slice va cs.length vc) := by simp [World.cell?, hR.ob]
 have o5 : w1.cell? ⟨w.heap.size, 5, none⟩ = some (.bool wh) := by simp [World.cell?, hR.ob]
 have p0 : w1.cell? ⟨w.heap.size + 1, 0, none⟩ = some (.int .i64 a) := by simp [World.cell?, hR.pb]
 have p1 : w1.cell? ⟨w.heap.size + 1, 1, none⟩ = some (.int .i64 l) := by simp [World.cell?, hR.pb]
 have hz := hR.z
 have zo : w.heap.size < w1.heap.size := by omega
 have zp : w.heap.size + 1 < w1.heap.size := by omega
 have b0 := h1.p.c0
 have b1 := h1.p.c1
 have bl := h1.p.bl
 have H1 := hide h1
 have H := hide h
 have HOUT := hide h.outside
 have HB1 := hide hR.B
 have hs := h1.p.ok
 have hc := hide (pages_any w1 d wb vs no ni F a l n h1 b1' b2)
 clear h1 h hs b0 b1 bl hv
 go_enter Tryz.func72, Tryz.ntmps72
 go_wp2_with fail
 refine hc.out.mono ?_
 rintro _ w5 hp5
 obtain ⟨rfl, -⟩ := id hp5
 have fin := hide ((paged_stp (no := no) (Below.refl _ w1) (Nat.le_refl _) hp5).up HB1.out)
 clear hp5 hc
 go_wp2
 go_ret
 exact fin.out
set_option maxRecDepth 8000 in
set_option maxHeartbeats 4000000 in
theorem route_oth (w : World) (d : Sd) (wb : Nat) (vs : Value) (no ni : Nat) (F : List Nat) (a l n : Int) (v : Value) (wh : Bool) (cs : List Chg) (h : PW w d wb vs no ni F) (hv : ChgsAt w v cs) (k : Int) (hk : ¬ k = 1 /\ ¬ k = 2 /\ ¬ k = 3 /\ ¬ k = 4 /\ ¬ k = 5 /\ ¬ k = 6 /\ ¬ k = 7) :
  Calls Tryz.prog 72 #[ptrV wb, ptrV d.b, opV k a l n v wh] w (StP w d wb vs no ni F) := by
 obtain ⟨va, vc, rfl⟩ : ∃ va vc, v = .slice va cs.length vc := by obtain ⟨p, q, h, _⟩ := hv; exact ⟨p, q, h⟩
 have hR := rtW w k a l n (.slice va cs.length vc) wh
 obtain ⟨w1, hw1⟩ : ∃ w1, (w.alloc (.cells (opB k a l n (.slice va cs.length vc) wh) 85)).alloc (.cells #[.int .i64 a, .int .i64 l] 65) = w1 := ⟨_, rfl⟩
 rw [hw1] at hR
 have h1 := h.later hR.B
 have o0 : w1.cell? ⟨w.heap.size, 0, none⟩ = some (.int .i64 k) := by simp [World.cell?, hR.ob]
 have o1 : w1.cell? ⟨w.heap.size, 1, none⟩ = some (.int .i64 a) := by simp [World.cell?, hR.ob]
 have o2 : w1.cell? ⟨w.heap.size, 2, none⟩ = some (.int .i64 l) := by simp [World.cell?, hR.ob]
 have o3 : w1.cell? ⟨w.heap.size, 3, none⟩ = some (.int .i64 n) := by simp [World.cell?, hR.ob]
 have o4 : w1.cell? ⟨w.heap.size, 4, none⟩ = some (.slice va cs.length vc) := by simp [World.cell?, hR.ob]
 have o5 : w1.cell? ⟨w.heap.size, 5, none⟩ = some (.bool wh) := by simp [World.cell?, hR.ob]
 have p0 : w1.cell? ⟨w.heap.size + 1, 0, none⟩ = some (.int .i64 a) := by simp [World.cell?, hR.pb]
 have p1 : w1.cell? ⟨w.heap.size + 1, 1, none⟩ = some (.int .i64 l) := by simp [World.cell?, hR.pb]
 have hz := hR.z
 have zo : w.heap.size < w1.heap.size := by omega
 have zp : w.heap.size + 1 < w1.heap.size := by omega
 have b0 := h1.p.c0
 have b1 := h1.p.c1
 have bl := h1.p.bl
 have H1 := hide h1
 have H := hide h
 have HOUT := hide h.outside
 have HB1 := hide hR.B
 have hs := h1.p.ok
 obtain ⟨n1, n2, n3, n4, n5, n6, n7⟩ := hk
 have m1 : (k == 1) = false := by simpa using n1
 have m2 : (k == 2) = false := by simpa using n2
 have m3 : (k == 3) = false := by simpa using n3
 have m4 : (k == 4) = false := by simpa using n4
 have m5 : (k == 5) = false := by simpa using n5
 have m6 : (k == 6) = false := by simpa using n6
 have m7 : (k == 7) = false := by simpa using n7
 have fin := hide (H.out.stay hR.B)
 clear h1 h hs b0 b1 bl hv n1 n2 n3 n4 n5 n6 n7
 go_enter Tryz.func72, Tryz.ntmps72
 go_wp2
 go_ret
 exact fin.out
end Go.Proofs.YtglbamalagacgaaGreat

import Derived.Test.YtglbamalagacgaaGreatL3
import Derived.Test.YtglbamalagacgaaGreatX6
import Derived.Test.YtglbamalagacgaaGreatRows
import Derived.ProofKit
import Derived.Deep.Slices
import Derived.Lib.SmallJoins
import Derived.Test.YtglbamalagacgaaGreatChecked
import Derived.SizedLaws
namespace Go.Proofs.YtglbamalagacgaaGreat
open Go.ChangeShapes Go.WideShapes Go.ChangeAt Go.RowKit Go.Deep
theorem add_pos (B : Addr) (j : Nat) (h : j ≠ 0) : B.add j = ⟨B.block, B.off + j, none⟩ := by unfold Addr.add; rw [if_neg h]
section
variable {H : Type} {enc : TypeId × Value -> H} {w : World} {base : Nat} {held : Bool}
theorem int_cell {n : Nat} {v : Value} {y : DataW H × List MemPlace} {spare : Nat -> Bool} (h : DataW.trod enc Tryz.prog w base spare held n 3 [v] = some y) : ∃ z, v = .int .i64 z := by
 obtain ⟨z, h1, _⟩ := DataW.trod_int Tryz.underlying3 h
 exact ⟨z, by simpa using h1⟩
theorem cell_lt {v : Value} {a : Addr} (h : w.cell? a = some v) : a.block < w.heap.size := World.block_lt_of_cell? w a h
theorem list3 {α : Type} {l : List α} (h : l.length = 3) : ∃ a b c, l = [a, b, c] := by
 match l, h with
 | [a, b, c], _ => exact ⟨a, b, c, rfl⟩
theorem chg_at {n : Nat} {B : Addr} {cs : List Value} {y : DataW H × List MemPlace} {spare : Nat -> Bool} (h1 : w.cells? base B 3 = some cs) (h2 : DataW.trod enc Tryz.prog w base spare held n 103 cs = some y) :
  ∃ x : Chg, B.block < w.heap.size /\ w.cell? B = some (.int .i64 x.a) /\ w.cell? ⟨B.block, B.off + 1, none⟩ = some (.int .i64 x.l) /\ w.cell? ⟨B.block, B.off + 2, none⟩ = some (.int .i64 x.n) := by
 obtain ⟨_, hlen, hcell⟩ := World.cells?_some h1
 obtain ⟨v0, v1, v2, rfl⟩ := list3 hlen
 obtain ⟨y0, y1, y2, k, _, _, g0, g1, g2⟩ := trod_struct3 Tryz.underlying103 h2
 have k3 : Tryz.prog.cellsOf 3 = 1 := by kernel_rfl
 simp only [k3, List.drop_zero, List.take_succ_cons, List.take_zero, List.drop_succ_cons] at g0 g1 g2
 obtain ⟨z0, rfl⟩ := int_cell g0
 obtain ⟨z1, rfl⟩ := int_cell g1
 obtain ⟨z2, rfl⟩ := int_cell g2
 have e0 := hcell 0 (by omega)
 have e1 := hcell 1 (by omega)
 have e2 := hcell 2 (by omega)
 rw [add_pos B 1 (by omega)] at e1
 rw [add_pos B 2 (by omega)] at e2
 have e0' : w.cell? B = some (.int .i64 z0) := by simpa [Addr.add] using e0
 exact ⟨⟨z0, z1, z2⟩, cell_lt e0', e0', by simpa using e1, by simpa using e2⟩
theorem chgs_open {n : Nat} {v : Value} {y : DataW H × List MemPlace} {spare : Nat -> Bool} (h : DataW.trod enc Tryz.prog w base spare held n 33 [v] = some y) : ∃ cs, ChgsAt w v cs := by
 have k3 : Tryz.prog.cellsOf 103 = 3 := by kernel_rfl
 rcases open_slice Tryz.underlying33 h with ⟨h0, _⟩ | ⟨a, len, cap, m, n, D, Pl, h0, hb, hl, hm, hmm, _, hx⟩
 ·refine ⟨[], none, 0, by simpa using h0, Nat.zero_le _, fun i x hx => by simp at hx⟩
 ·rw [k3] at hx
  have hlm : len <= m := by rw [hmm]; split <;> omega
  have each : ∀ i, i < len -> ∃ x : Chg, (a.add (i * 3)).block < w.heap.size /\ w.cell? (a.add (i * 3)) = some (.int .i64 x.a) /\ w.cell? ⟨(a.add (i * 3)).block, (a.add (i * 3)).off + 1, none⟩ = some (.int .i64 x.l) /\ w.cell? ⟨(a.add (i * 3)).block, (a.add (i * 3)).off + 2, none⟩ = some (.int .i64 x.n) := fun i hi => by
   obtain ⟨cs', h1, h2⟩ := hx i (by omega)
   exact chg_at h1 h2
  haveI : Inhabited Chg := ⟨⟨0, 0, 0⟩⟩
  obtain ⟨f, hf⟩ := choose_lt each
  refine ⟨(List.range len).map f, some a, cap, by simpa using h0, by simp; omega, fun i x hx => ?_⟩
  have hi : i < len := by have := (List.getElem?_eq_some_iff.1 hx).1; simpa using this
  have hxe : x = f i := by simpa [hi, eq_comm] using hx
  subst hxe
  obtain ⟨q0, q1, q2, q3⟩ := hf i hi
  exact ⟨a, rfl, by rwa [addB] at q0, q1, q2, q3⟩
end
end Go.Proofs.YtglbamalagacgaaGreat

namespace Go.Proofs.YtglbamalagacgaaGreat
open Go.ChangeShapes Go.WideShapes Go.ChangeAt Go.RowKit Go.Deep
theorem Tryz.own : ownKnob Tryz.prog.godebug = none := by kernel_rfl
theorem Tryz.laidOut : laidOutB Tryz.prog = true := by kernel_rfl
section
variable {H : Type} {enc : TypeId × Value -> H}
set_option maxRecDepth 100000 in
theorem cfg_open {W : World} {base : Nat} {v : Value} {d : DataW H} {p : List MemPlace} (hv : Value.okWide Tryz.prog W .any base 23 v) (h : DataW.Trod enc Tryz.prog W 0 (fun _ => true) true 23 v d p) : ∃ cf, v = cfgV cf := by
 obtain ⟨v0, v1, v2, v3, y0, y1, y2, y3, n, rfl, _, _, h0, h1, h2, h3⟩ := Joins.open_agg4 Tryz.underlying23 (by kernel_rfl) (by kernel_rfl) hv h
 obtain ⟨z0, rfl⟩ := int_cell h0
 obtain ⟨z1, rfl⟩ := int_cell h1
 obtain ⟨z2, rfl⟩ := int_cell h2
 obtain ⟨z3, rfl⟩ := int_cell h3
 exact ⟨⟨z0, z1, z2, z3⟩, rfl⟩
end
end Go.Proofs.YtglbamalagacgaaGreat

namespace Go.Proofs.YtglbamalagacgaaGreat
open Go.ChangeShapes Go.WideShapes Go.ChangeAt Go.RowKit Go.Deep
section
variable {H : Type} {enc : TypeId × Value -> H} {w : World} {base : Nat} {held : Bool}
theorem weights_all {P : Program} {e : TypeId} : ∀ {l : List (DataW H)} {d : DataW H}, d ∈ l -> ∀ n ∈ d.weights P e, n ∈ DataW.weightsAll P e l
 | x :: r, d, hd, n, hn => by
  simp only [DataW.weightsAll, List.mem_append]
  rcases List.mem_cons.1 hd with rfl | h
  ·exact Or.inl hn
  ·exact Or.inr (weights_all h n hn)
theorem bool_cell {n : Nat} {v : Value} {y : DataW H × List MemPlace} {spare : Nat -> Bool} (h : DataW.trod enc Tryz.prog w base spare held n 4 [v] = some y) : ∃ z, v = .bool z := by
 obtain ⟨z, h1, _⟩ := DataW.trod_bool Tryz.underlying4 h
 exact ⟨z, by simpa using h1⟩
theorem chgs_openW {n B : Nat} {v : Value} {y : DataW H × List MemPlace} {spare : Nat -> Bool} (h : DataW.trod enc Tryz.prog w base spare held n 33 [v] = some y) (hB : ∀ q ∈ y.1.weights Tryz.prog 33, q <= B) : ∃ cs, ChgsAt w v cs /\ cs.length * 24 <= B := by
 obtain ⟨cs, hcs⟩ := chgs_open h
 refine ⟨cs, hcs, ?_⟩
 obtain ⟨a0, c0, hv0, _⟩ := hcs
 rcases open_slice Tryz.underlying33 h with ⟨h0, _⟩ | ⟨a, len, cap, m, n, D, Pl, h0, hb, hl, hm, hmm, hy, hx⟩
 ·have : v = .slice none 0 0 := by simpa using h0
  rw [this] at hv0
  have : 0 = cs.length := by injection hv0
  omega
 ·have : v = .slice (some a) len cap := by simpa using h0
  rw [this] at hv0
  have hl2 : len = cs.length := by injection hv0
  have kb : Tryz.prog.bytesOf 103 = 24 := by kernel_rfl
  have := hB ((((List.range len).map D).length + ((List.range (m - len)).map fun j => D (len + j)).length) * Tryz.prog.bytesOf 103) (by rw [hy]; simp [DataW.weights, Tryz.underlying33])
  rw [kb] at this
  simp only [List.length_map, List.length_range] at this
  rw [<- hl2]
  omega
theorem list6 {α : Type} {l : List α} (h : l.length = 6) : ∃ a b c d e f, l = [a, b, c, d, e, f] := by
 match l, h with
 | [a, b, c, d, e, f], _ => exact ⟨a, b, c, d, e, f, rfl⟩
theorem opr_at {n Bd : Nat} {B : Addr} {cs : List Value} {y : DataW H × List MemPlace} {spare : Nat -> Bool} (h1 : w.cells? base B 6 = some cs) (h2 : DataW.trod enc Tryz.prog w base spare held n 85 cs = some y) (hB : ∀ q ∈ y.1.weights Tryz.prog 85, q <= Bd) :
  ∃ x : Opr, B.block < w.heap.size /\ x.cs.length * 24 <= Bd /\ ChgsAt w x.v x.cs /\ w.cell? B = some (.int .i64 x.k) /\ w.cell? ⟨B.block, B.off + 1, none⟩ = some (.int .i64 x.a) /\ w.cell? ⟨B.block, B.off + 2, none⟩ = some (.int .i64 x.l) /\ w.cell? ⟨B.block, B.off + 3, none⟩ = some (.int .i64 x.n) /\ w.cell? ⟨B.block, B.off + 4, none⟩ = some x.v /\ w.cell? ⟨B.block, B.off + 5, none⟩ = some (.bool x.wh) := by
 obtain ⟨_, hlen, hcell⟩ := World.cells?_some h1
 obtain ⟨v0, v1, v2, v3, v4, v5, rfl⟩ := list6 hlen
 obtain ⟨xs, k, _, hyx, _, hxl, hf⟩ := DataW.trod_struct Tryz.underlying85 h2
 obtain ⟨y0, y1, y2, y3, y4, y5, rfl⟩ := list6 hxl
 have g0 := hf 0 _ rfl
 have g1 := hf 1 _ rfl
 have g2 := hf 2 _ rfl
 have g3 := hf 3 _ rfl
 have g4 := hf 4 _ rfl
 have g5 := hf 5 _ rfl
 have k3 : Tryz.prog.cellsOf 3 = 1 := by kernel_rfl
 have k4 : Tryz.prog.cellsOf 33 = 1 := by kernel_rfl
 have k5 : Tryz.prog.cellsOf 4 = 1 := by kernel_rfl
 simp [k3] at g0 g1 g2 g3
 simp [k4] at g4
 simp [k5] at g5
 obtain ⟨z0, rfl⟩ := int_cell g0
 obtain ⟨z1, rfl⟩ := int_cell g1
 obtain ⟨z2, rfl⟩ := int_cell g2
 obtain ⟨z3, rfl⟩ := int_cell g3
 obtain ⟨z5, rfl⟩ := bool_cell g5
 obtain ⟨c, hc, hcB⟩ := chgs_openW (B := Bd) g4 (fun q hq => hB q (by
  rw [hyx]
  simp only [DataW.weights, Tryz.underlying85]
  exact DataW.weights_mem_each (j := 4) (t := 33) (d := y4.1) rfl rfl q hq))
 have e0 := hcell 0 (by omega)
 have e1 := hcell 1 (by omega)
 have e2 := hcell 2 (by omega)
 have e3 := hcell 3 (by omega)
 have e4 := hcell 4 (by omega)
 have e5 := hcell 5 (by omega)
 rw [add_pos B 1 (by omega)] at e1
 rw [add_pos B 2 (by omega)] at e2
 rw [add_pos B 3 (by omega)] at e3
 rw [add_pos B 4 (by omega)] at e4
 rw [add_pos B 5 (by omega)] at e5
 have e0' : w.cell? B = some (.int .i64 z0) := by simpa [Addr.add] using e0
 exact ⟨⟨z0, z1, z2, z3, v4, c, z5⟩, cell_lt e0', hcB, hc, e0', by simpa using e1, by simpa using e2, by simpa using e3, by simpa using e4, by simpa using e5⟩
theorem ops_openW {n B : Nat} {v : Value} {y : DataW H × List MemPlace} {spare : Nat -> Bool} (h : DataW.trod enc Tryz.prog w base spare held n 24 [v] = some y) (hB : ∀ q ∈ y.1.weights Tryz.prog 24, q <= B) : ∃ ss, OpsAt w v ss /\ ss.length * 64 <= B /\ ∀ x ∈ ss, x.cs.length * 24 <= B := by
 have k6 : Tryz.prog.cellsOf 85 = 6 := by kernel_rfl
 have kb : Tryz.prog.bytesOf 85 = 64 := by kernel_rfl
 rcases open_slice Tryz.underlying24 h with ⟨h0, _⟩ | ⟨a, len, cap, m, n, D, Pl, h0, hb, hl, hm, hmm, hy, hx⟩
 ·exact ⟨[], ⟨none, 0, by simpa using h0, fun i x hx => by simp at hx⟩, by simp, fun x hx => by cases hx⟩
 ·rw [k6] at hx
  have hlm : len <= m := by rw [hmm]; split <;> omega
  have hw : ∀ q, q ∈ (len + (m - len)) * 64 :: (DataW.weightsAll Tryz.prog 85 ((List.range len).map D) ++ DataW.weightsAll Tryz.prog 85 ((List.range (m - len)).map fun j => D (len + j))) -> q <= B := fun q hq => hB q (by
   rw [hy]
   simp only [DataW.weights, Tryz.underlying24, kb, List.length_map, List.length_range]
   exact hq)
  have each : ∀ i, i < len -> ∃ x : Opr, (a.add (i * 6)).block < w.heap.size /\ x.cs.length * 24 <= B /\ ChgsAt w x.v x.cs /\ w.cell? (a.add (i * 6)) = some (.int .i64 x.k) /\ w.cell? ⟨(a.add (i * 6)).block, (a.add (i * 6)).off + 1, none⟩ = some (.int .i64 x.a) /\ w.cell? ⟨(a.add (i * 6)).block, (a.add (i * 6)).off + 2, none⟩ = some (.int .i64 x.l) /\ w.cell? ⟨(a.add (i * 6)).block, (a.add (i * 6)).off + 3, none⟩ = some (.int .i64 x.n) /\ w.cell? ⟨(a.add (i * 6)).block, (a.add (i * 6)).off + 4, none⟩ = some x.v /\ w.cell? ⟨(a.add (i * 6)).block, (a.add (i * 6)).off + 5, none⟩ = some (.bool x.wh) := fun i hi => by
   obtain ⟨cs', h1, h2⟩ := hx i (by omega)
   exact opr_at h1 h2 fun q hq => hw q (List.mem_cons_of_mem _ (List.mem_append.2 (.inl (weights_all (List.mem_map.2 ⟨i, by simpa using hi, rfl⟩) q hq))))
  haveI : Inhabited Opr := ⟨⟨0, 0, 0, 0, .slice none 0 0, [], false⟩⟩
  obtain ⟨f, hf⟩ := choose_lt each
  refine ⟨(List.range len).map f, ⟨some a, cap, by simpa using h0, fun i x hx => ?_⟩, ?_, fun x hx => ?_⟩
  ·have hi : i < len := by have := (List.getElem?_eq_some_iff.1 hx).1; simpa using this
   have hxe : x = f i := by simpa [hi, eq_comm] using hx
   subst hxe
   obtain ⟨q0, _, q⟩ := hf i hi
   exact ⟨a, rfl, by rwa [addB] at q0, q⟩
  ·have := hw _ (List.mem_cons_self ..)
   simp only [List.length_map, List.length_range]
   omega
  ·obtain ⟨i, hi, rfl⟩ := List.mem_map.1 hx
   exact (hf i (by simpa using hi)).2.1
end
end Go.Proofs.YtglbamalagacgaaGreat

namespace Go.Proofs.YtglbamalagacgaaGreat
open Go.RowKit Go.Shelf
attribute [local go_sem] Oper.semAt_some
theorem OpsAt.later {w w' : World} {v : Value} {ss : List Opr} (h : OpsAt w v ss) (hB : Below w.heap.size w w') : OpsAt w' v ss := by
 obtain ⟨a, cap, h1, h2⟩ := h
 refine ⟨a, cap, h1, fun i x hx => ?_⟩
 obtain ⟨A, q0, q1, q2, a0, a1, a2, a3, a4, a5⟩ := h2 i x hx
 have hA : (A.add (i * 6)).block < w.heap.size := by rw [addB]; exact q1
 exact ⟨A, q0, Nat.lt_of_lt_of_le q1 hB.size, q2.later hB, (hB.cell (p := A.add (i * 6)) hA).trans a0, (hB.cell (p := ⟨(A.add (i * 6)).block, (A.add (i * 6)).off + 1, none⟩) hA).trans a1, (hB.cell (p := ⟨(A.add (i * 6)).block, (A.add (i * 6)).off + 2, none⟩) hA).trans a2, (hB.cell (p := ⟨(A.add (i * 6)).block, (A.add (i * 6)).off + 3, none⟩) hA).trans a3, (hB.cell (p := ⟨(A.add (i * 6)).block, (A.add (i * 6)).off + 4, none⟩) hA).trans a4, (hB.cell (p := ⟨(A.add (i * 6)).block, (A.add (i * 6)).off + 5, none⟩) hA).trans a5⟩
theorem cfgs_one (w : World) (cf : Cfg) : RowG 23 4 (w.alloc (.cells #[.int .i64 cf.e, .int .i64 cf.b, .int .i64 cf.c, .int .i64 cf.l] 23)) (.slice (some ⟨w.heap.size, 0, none⟩) 1 1) 1 (cfgC [cf]) :=
 ⟨rfl, .inr ⟨w.heap.size, 1, [], rfl, World.alloc_heap_new w _, rfl, Nat.le_refl _, by unfold maxLen; omega⟩⟩
theorem cfgs_two (w : World) (cf cg : Cfg) : RowG 23 4 (w.alloc (.cells #[.int .i64 cf.e, .int .i64 cf.b, .int .i64 cf.c, .int .i64 cf.l, .int .i64 cg.e, .int .i64 cg.b, .int .i64 cg.c, .int .i64 cg.l] 23)) (.slice (some ⟨w.heap.size, 0, none⟩) 2 2) 2 (cfgC [cf, cg]) :=
 ⟨rfl, .inr ⟨w.heap.size, 2, [], rfl, World.alloc_heap_new w _, rfl, Nat.le_refl _, by unfold maxLen; omega⟩⟩
set_option maxRecDepth 4000 in
set_option maxHeartbeats 1000000 in
theorem routed_y (w : World) (cf : Cfg) (v : Value) (ss : List Opr) (hs : OpsAt w v ss) (hbig : ∀ x ∈ ss, x.cs.length <= 6000000000000) (hss : ss.length <= 2199023255552) :
  Calls Tryz.prog 3 #[cfgV cf, v] w fun r w' => r = .returned (.bool true) /\ Below w.heap.size w w' := by
 have hB : Below w.heap.size w ((w.alloc (.cells #[.int .i64 cf.e, .int .i64 cf.b, .int .i64 cf.c, .int .i64 cf.l] 23)).alloc (.cells #[.int .i64 cf.e, .int .i64 cf.b, .int .i64 cf.c, .int .i64 cf.l] 23)) := (by repeat (first | exact Below.refl _ _ | refine below_drewN ?_ _ | refine Below.drew ?_ | refine Below.trans ?_ (Below.mono (by assumption) ?_) | refine Below.alloc ?_ ?_ _ | refine Below.setCell ?_ ?_ _ | omega | (simp; omega) | simp))
 have hr := cfgs_one (w.alloc (.cells #[.int .i64 cf.e, .int .i64 cf.b, .int .i64 cf.c, .int .i64 cf.l] 23)) cf
 rw [World.size_alloc] at hr
 have hc := hide (play_y _ _ [cf] v ss 9 7 hr (by simp) (by simp) (hs.later hB) hbig hss (by omega) (by omega))
 obtain ⟨sa, sc, rfl, _⟩ := hs
 have HB := hide hB
 obtain ⟨e, b, ch, lg⟩ := cf
 clear hB hr hbig
 go_enter Tryz.func3, Tryz.ntmps3
 go_wp2_with fail
 refine hc.out.mono ?_
 rintro _ w2 ⟨rfl, hb2⟩
 have fin := hide (HB.out.trans (hb2.mono (by simp; omega)))
 clear hb2 hc
 go_wp2
 go_ret
 exact ⟨rfl, fin.out⟩
set_option maxRecDepth 4000 in
set_option maxHeartbeats 1000000 in
theorem moved_y (w : World) (cf : Cfg) (v : Value) (ss : List Opr) (hs : OpsAt w v ss) (hbig : ∀ x ∈ ss, x.cs.length <= 6000000000000) (hss : ss.length <= 2199023255552) :
  Calls Tryz.prog 4 #[cfgV cf, v] w fun r w' => r = .returned (.bool true) /\ Below w.heap.size w w' := by
 have hB : Below w.heap.size w ((w.alloc (.cells #[.int .i64 cf.e, .int .i64 cf.b, .int .i64 cf.c, .int .i64 cf.l] 23)).alloc (.cells #[.int .i64 cf.e, .int .i64 cf.b, .int .i64 cf.c, .int .i64 cf.l] 23)) := (by repeat (first | exact Below.refl _ _ | refine below_drewN ?_ _ | refine Below.drew ?_ | refine Below.trans ?_ (Below.mono (by assumption) ?_) | refine Below.alloc ?_ ?_ _ | refine Below.setCell ?_ ?_ _ | omega | (simp; omega) | simp))
 have hr := cfgs_one (w.alloc (.cells #[.int .i64 cf.e, .int .i64 cf.b, .int .i64 cf.c, .int .i64 cf.l] 23)) cf
 rw [World.size_alloc] at hr
 have hc := hide (play_y _ _ [cf] v ss 13 32 hr (by simp) (by simp) (hs.later hB) hbig hss (by omega) (by omega))
 obtain ⟨sa, sc, rfl, _⟩ := hs
 have HB := hide hB
 obtain ⟨e, b, ch, lg⟩ := cf
 clear hB hr hbig
 go_enter Tryz.func4, Tryz.ntmps4
 go_wp2_with fail
 refine hc.out.mono ?_
 rintro _ w2 ⟨rfl, hb2⟩
 have fin := hide (HB.out.trans (hb2.mono (by simp; omega)))
 clear hb2 hc
 go_wp2
 go_ret
 exact ⟨rfl, fin.out⟩
set_option maxRecDepth 4000 in
set_option maxHeartbeats 1000000 in
theorem all_y (w : World) (cf cg : Cfg) (v : Value) (ss : List Opr) (hs : OpsAt w v ss) (hbig : ∀ x ∈ ss, x.cs.length <= 6000000000000) (hss : ss.length <= 2199023255552) :
  Calls Tryz.prog 11 #[cfgV cf, cfgV cg, v] w fun r w' => r = .returned (.bool true) /\ Below w.heap.size w w' := by
 have hB : Below w.heap.size w (((w.alloc (.cells #[.int .i64 cf.e, .int .i64 cf.b, .int .i64 cf.c, .int .i64 cf.l] 23)).alloc (.cells #[.int .i64 cg.e, .int .i64 cg.b, .int .i64 cg.c, .int .i64 cg.l] 23)).alloc (.cells #[.int .i64 cf.e, .int .i64 cf.b, .int .i64 cf.c, .int .i64 cf.l, .int .i64 cg.e, .int .i64 cg.b, .int .i64 cg.c, .int .i64 cg.l] 23)) := (by repeat (first | exact Below.refl _ _ | refine below_drewN ?_ _ | refine Below.drew ?_ | refine Below.trans ?_ (Below.mono (by assumption) ?_) | refine Below.alloc ?_ ?_ _ | refine Below.setCell ?_ ?_ _ | omega | (simp; omega) | simp))
 have hr := cfgs_two ((w.alloc (.cells #[.int .i64 cf.e, .int .i64 cf.b, .int .i64 cf.c, .int .i64 cf.l] 23)).alloc (.cells #[.int .i64 cg.e, .int .i64 cg.b, .int .i64 cg.c, .int .i64 cg.l] 23)) cf cg
 rw [World.size_alloc, World.size_alloc] at hr
 have hc := hide (play_y _ _ [cf, cg] v ss 13 5 hr (by simp) (by simp) (hs.later hB) hbig hss (by omega) (by omega))
 obtain ⟨sa, sc, rfl, _⟩ := hs
 have HB := hide hB
 obtain ⟨e, b, ch, lg⟩ := cf
 obtain ⟨e2, b2, ch2, lg2⟩ := cg
 clear hB hr hbig
 go_enter Tryz.func11, Tryz.ntmps11
 go_wp2_with fail
 refine hc.out.mono ?_
 rintro _ w2 ⟨rfl, hb2⟩
 have fin := hide (HB.out.trans (hb2.mono (by simp; omega)))
 clear hb2 hc
 go_wp2
 go_ret
 exact ⟨rfl, fin.out⟩
end Go.Proofs.YtglbamalagacgaaGreat

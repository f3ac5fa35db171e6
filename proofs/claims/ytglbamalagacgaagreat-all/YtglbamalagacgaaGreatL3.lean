import Derived.Test.YtglbamalagacgaaGreatS1
import Derived.Test.YtglbamalagacgaaGreatRows
import Derived.ProofKit
import Derived.Deep.Slices
import Derived.Lib.SmallJoins
import Derived.Test.YtglbamalagacgaaGreatChecked
namespace Go.Proofs.YtglbamalagacgaaGreat
open Go.RowKit Go.Shelf
attribute [local go_sem] Oper.semAt_some
structure Stp where
 k : Int
 a : Int
 l : Int
 n : Int
 v : Value
 cs : List Chg
def StepsAt (w : World) (v : Value) (ss : List Stp) : Prop := ∃ a cap, v = .slice a ss.length cap /\ ss.length <= maxLen /\ ∀ i x, ss[i]? = some x -> ∃ A, a = some A /\ A.block < w.heap.size /\ ChgsAt w x.v x.cs ∧
 w.cell? (A.add (i * 5)) = some (.int .i64 x.k) /\ w.cell? ⟨(A.add (i * 5)).block, (A.add (i * 5)).off + 1, none⟩ = some (.int .i64 x.a) /\ w.cell? ⟨(A.add (i * 5)).block, (A.add (i * 5)).off + 2, none⟩ = some (.int .i64 x.l) /\ w.cell? ⟨(A.add (i * 5)).block, (A.add (i * 5)).off + 3, none⟩ = some (.int .i64 x.n) /\ w.cell? ⟨(A.add (i * 5)).block, (A.add (i * 5)).off + 4, none⟩ = some x.v
theorem StepsAt.later {w w' : World} {v : Value} {ss : List Stp} (h : StepsAt w v ss) (hB : Below w.heap.size w w') : StepsAt w' v ss := by
 obtain ⟨a, cap, h1, h2, h3⟩ := h
 refine ⟨a, cap, h1, h2, fun i x hx => ?_⟩
 obtain ⟨A, h4, h5, h6, r0, r1, r2, r3, r4⟩ := h3 i x hx
 have hk : ∀ j, (⟨(A.add (i * 5)).block, (A.add (i * 5)).off + j, none⟩ : Addr).block < w.heap.size := fun j => by simpa [addB] using h5
 exact ⟨A, h4, by have := hB.size; omega, h6.later hB, (hB.cell (p := A.add (i * 5)) (by simpa [addB] using h5)).trans r0, (hB.cell (p := ⟨(A.add (i * 5)).block, (A.add (i * 5)).off + 1, none⟩) (hk 1)).trans r1, (hB.cell (p := ⟨(A.add (i * 5)).block, (A.add (i * 5)).off + 2, none⟩) (hk 2)).trans r2, (hB.cell (p := ⟨(A.add (i * 5)).block, (A.add (i * 5)).off + 3, none⟩) (hk 3)).trans r3, (hB.cell (p := ⟨(A.add (i * 5)).block, (A.add (i * 5)).off + 4, none⟩) (hk 4)).trans r4⟩
structure Mid (c : TabC) (w1 w : World) (bk g t : Nat) (cf : Cfg) (rs : Nat -> Int) (s : c.S) (F : List Nat) : Prop where
 law : Law c w bk g t cf rs s F
 below : Below w1.heap.size w1 w
 b1 : w1.heap.size <= bk
 b2 : w1.heap.size <= g
 b3 : ∀ k ∈ F, w1.heap.size <= k
theorem Mid.later {c : TabC} {w1 w w' : World} {bk g t : Nat} {cf : Cfg} {rs : Nat -> Int} {s : c.S} {F : List Nat} (h : Mid c w1 w bk g t cf rs s F) (hB : Below w.heap.size w w') : Mid c w1 w' bk g t cf rs s F :=
 ⟨h.law.later hB, h.below.trans (hB.mono h.below.size), h.b1, h.b2, h.b3⟩
end Go.Proofs.YtglbamalagacgaaGreat

namespace Go.Proofs.YtglbamalagacgaaGreat
open Go.ChangeShapes Go.WideShapes Go.ChangeAt Go.RowKit Go.Deep
theorem add_pos (B : Addr) (j : Nat) (h : j ≠ 0) : B.add j = ⟨B.block, B.off + j, none⟩ := by unfold Addr.add; rw [if_neg h]
section
variable {H : Type} {enc : TypeId × Value -> H} {w : World} {base : Nat} {held : Bool}
theorem int_cell {n : Nat} {v : Value} {y : DataW H × List MemPlace} {spare : Nat -> Bool} (h : DataW.trod enc Tryz.prog w base spare held n 3 [v] = some y) : ∃ z, v = .int .i64 z := by
 obtain ⟨z, h1, _⟩ := DataW.trod_int Tryz.underlying3 h
 exact ⟨z, by simpa using h1⟩
theorem cell_lt {v : Value} {a : Addr} (h : w.cell? a = some v) : a.block < w.heap.size := World.block_lt_of_cell? w a h
theorem list3 {α : Type} {l : List α} (h : l.length = 3) : ∃ a b c, l = [a, b, c] := by
 match l, h with
 | [a, b, c], _ => exact ⟨a, b, c, rfl⟩
theorem chg_at {n : Nat} {B : Addr} {cs : List Value} {y : DataW H × List MemPlace} {spare : Nat -> Bool} (h1 : w.cells? base B 3 = some cs) (h2 : DataW.trod enc Tryz.prog w base spare held n 103 cs = some y) :
  ∃ x : Chg, B.block < w.heap.size /\ w.cell? B = some (.int .i64 x.a) /\ w.cell? ⟨B.block, B.off + 1, none⟩ = some (.int .i64 x.l) /\ w.cell? ⟨B.block, B.off + 2, none⟩ = some (.int .i64 x.n) := by
 obtain ⟨_, hlen, hcell⟩ := World.cells?_some h1
 obtain ⟨v0, v1, v2, rfl⟩ := list3 hlen
 obtain ⟨y0, y1, y2, k, _, _, g0, g1, g2⟩ := trod_struct3 Tryz.underlying103 h2
 have k3 : Tryz.prog.cellsOf 3 = 1 := by kernel_rfl
 simp only [k3, List.drop_zero, List.take_succ_cons, List.take_zero, List.drop_succ_cons] at g0 g1 g2
 obtain ⟨z0, rfl⟩ := int_cell g0
 obtain ⟨z1, rfl⟩ := int_cell g1
 obtain ⟨z2, rfl⟩ := int_cell g2
 have e0 := hcell 0 (by omega)
 have e1 := hcell 1 (by omega)
 have e2 := hcell 2 (by omega)
 rw [add_pos B 1 (by omega)] at e1
 rw [add_pos B 2 (by omega)] at e2
 have e0' : w.cell? B = some (.int .i64 z0) := by simpa [Addr.add] using e0
 exact ⟨⟨z0, z1, z2⟩, cell_lt e0', e0', by simpa using e1, by simpa using e2⟩
theorem chgs_open {n : Nat} {v : Value} {y : DataW H × List MemPlace} {spare : Nat -> Bool} (h : DataW.trod enc Tryz.prog w base spare held n 33 [v] = some y) : ∃ cs, ChgsAt w v cs := by
 have k3 : Tryz.prog.cellsOf 103 = 3 := by kernel_rfl
 rcases open_slice Tryz.underlying33 h with ⟨h0, _⟩ | ⟨a, len, cap, m, n, D, Pl, h0, hb, hl, hm, hmm, _, hx⟩
 ·refine ⟨[], none, 0, by simpa using h0, Nat.zero_le _, fun i x hx => by simp at hx⟩
 ·rw [k3] at hx
  have hlm : len <= m := by rw [hmm]; split <;> omega
  have each : ∀ i, i < len -> ∃ x : Chg, (a.add (i * 3)).block < w.heap.size /\ w.cell? (a.add (i * 3)) = some (.int .i64 x.a) /\ w.cell? ⟨(a.add (i * 3)).block, (a.add (i * 3)).off + 1, none⟩ = some (.int .i64 x.l) /\ w.cell? ⟨(a.add (i * 3)).block, (a.add (i * 3)).off + 2, none⟩ = some (.int .i64 x.n) := fun i hi => by
   obtain ⟨cs', h1, h2⟩ := hx i (by omega)
   exact chg_at h1 h2
  haveI : Inhabited Chg := ⟨⟨0, 0, 0⟩⟩
  obtain ⟨f, hf⟩ := choose_lt each
  refine ⟨(List.range len).map f, some a, cap, by simpa using h0, by simp; omega, fun i x hx => ?_⟩
  have hi : i < len := by have := (List.getElem?_eq_some_iff.1 hx).1; simpa using this
  have hxe : x = f i := by simpa [hi, eq_comm] using hx
  subst hxe
  obtain ⟨q0, q1, q2, q3⟩ := hf i hi
  exact ⟨a, rfl, by rwa [addB] at q0, q1, q2, q3⟩
end
end Go.Proofs.YtglbamalagacgaaGreat

namespace Go.Proofs.YtglbamalagacgaaGreat
open Go.ChangeShapes Go.WideShapes Go.ChangeAt Go.RowKit Go.Deep
theorem Tryz.own : ownKnob Tryz.prog.godebug = none := by kernel_rfl
theorem Tryz.laidOut : laidOutB Tryz.prog = true := by kernel_rfl
section
variable {H : Type} {enc : TypeId × Value -> H}
set_option maxRecDepth 100000 in
theorem cfg_open {W : World} {base : Nat} {v : Value} {d : DataW H} {p : List MemPlace} (hv : Value.okWide Tryz.prog W .any base 23 v) (h : DataW.Trod enc Tryz.prog W 0 (fun _ => true) true 23 v d p) : ∃ cf, v = cfgV cf := by
 obtain ⟨v0, v1, v2, v3, y0, y1, y2, y3, n, rfl, _, _, h0, h1, h2, h3⟩ := Joins.open_agg4 Tryz.underlying23 (by kernel_rfl) (by kernel_rfl) hv h
 obtain ⟨z0, rfl⟩ := int_cell h0
 obtain ⟨z1, rfl⟩ := int_cell h1
 obtain ⟨z2, rfl⟩ := int_cell h2
 obtain ⟨z3, rfl⟩ := int_cell h3
 exact ⟨⟨z0, z1, z2, z3⟩, rfl⟩
end
end Go.Proofs.YtglbamalagacgaaGreat

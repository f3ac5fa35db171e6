import Derived.Test.YtglbamalagacgaaGreatS1
import Derived.Test.YtglbamalagacgaaGreatRows
import Derived.ProofKit
import Derived.Deep.Slices
import Derived.Lib.SmallJoins
import Derived.Test.YtglbamalagacgaaGreatChecked
namespace Go.Proofs.YtglbamalagacgaaGreat
open Go.RowKit Go.Shelf
attribute [local go_sem] Oper.semAt_some
end Go.Proofs.YtglbamalagacgaaGreat

namespace Go.Proofs.YtglbamalagacgaaGreat
open Go.ChangeShapes Go.WideShapes Go.ChangeAt Go.RowKit Go.Deep
theorem add_pos (B : Addr) (j : Nat) (h : j ≠ 0) : B.add j = ⟨B.block, B.off + j, none⟩ := by unfold Addr.add; rw [if_neg h]
section
variable {H : Type} {enc : TypeId × Value -> H} {w : World} {base : Nat} {held : Bool}
theorem int_cell {n : Nat} {v : Value} {y : DataW H × List MemPlace} {spare : Nat -> Bool} (h : DataW.trod enc Tryz.prog w base spare held n 3 [v] = some y) : ∃ z, v = .int .i64 z := by
 obtain ⟨z, h1, _⟩ := DataW.trod_int Tryz.underlying3 h
 exact ⟨z, by simpa using h1⟩
theorem cell_lt {v : Value} {a : Addr} (h : w.cell? a = some v) : a.block < w.heap.size := World.block_lt_of_cell? w a h
theorem list3 {α : Type} {l : List α} (h : l.length = 3) : ∃ a b c, l = [a, b, c] := by
 match l, h with
 | [a, b, c], _ => exact ⟨a, b, c, rfl⟩
theorem chg_at {n : Nat} {B : Addr} {cs : List Value} {y : DataW H × List MemPlace} {spare : Nat -> Bool} (h1 : w.cells? base B 3 = some cs) (h2 : DataW.trod enc Tryz.prog w base spare held n 103 cs = some y) :
  ∃ x : Chg, B.block < w.heap.size /\ w.cell? B = some (.int .i64 x.a) /\ w.cell? ⟨B.block, B.off + 1, none⟩ = some (.int .i64 x.l) /\ w.cell? ⟨B.block, B.off + 2, none⟩ = some (.int .i64 x.n) := by
 obtain ⟨_, hlen, hcell⟩ := World.cells?_some h1
 obtain ⟨v0, v1, v2, rfl⟩ := list3 hlen
 obtain ⟨y0, y1, y2, k, _, _, g0, g1, g2⟩ := trod_struct3 Tryz.underlying103 h2
 have k3 : Tryz.prog.cellsOf 3 = 1 := by kernel_rfl
 simp only [k3, List.drop_zero, List.take_succ_cons, List.take_zero, List.drop_succ_cons] at g0 g1 g2
 obtain ⟨z0, rfl⟩ := int_cell g0
 obtain ⟨z1, rfl⟩ := int_cell g1
 obtain ⟨z2, rfl⟩ := int_cell g2
 have e0 := hcell 0 (by omega)
 have e1 := hcell 1 (by omega)
 have e2 := hcell 2 (by omega)
 rw [add_pos B 1 (by omega)] at e1
 rw [add_pos B 2 (by omega)] at e2
 have e0' : w.cell? B = some (.int .i64 z0) := by simpa [Addr.add] using e0
 exact ⟨⟨z0, z1, z2⟩, cell_lt e0', e0', by simpa using e1, by simpa using e2⟩
theorem chgs_open {n : Nat} {v : Value} {y : DataW H × List MemPlace} {spare : Nat -> Bool} (h : DataW.trod enc Tryz.prog w base spare held n 33 [v] = some y) : ∃ cs, ChgsAt w v cs := by
 have k3 : Tryz.prog.cellsOf 103 = 3 := by kernel_rfl
 rcases open_slice Tryz.underlying33 h with ⟨h0, _⟩ | ⟨a, len, cap, m, n, D, Pl, h0, hb, hl, hm, hmm, _, hx⟩
 ·refine ⟨[], none, 0, by simpa using h0, Nat.zero_le _, fun i x hx => by simp at hx⟩
 ·rw [k3] at hx
  have hlm : len <= m := by rw [hmm]; split <;> omega
  have each : ∀ i, i < len -> ∃ x : Chg, (a.add (i * 3)).block < w.heap.size /\ w.cell? (a.add (i * 3)) = some (.int .i64 x.a) /\ w.cell? ⟨(a.add (i * 3)).block, (a.add (i * 3)).off + 1, none⟩ = some (.int .i64 x.l) /\ w.cell? ⟨(a.add (i * 3)).block, (a.add (i * 3)).off + 2, none⟩ = some (.int .i64 x.n) := fun i hi => by
   obtain ⟨cs', h1, h2⟩ := hx i (by omega)
   exact chg_at h1 h2
  haveI : Inhabited Chg := ⟨⟨0, 0, 0⟩⟩
  obtain ⟨f, hf⟩ := choose_lt each
  refine ⟨(List.range len).map f, some a, cap, by simpa using h0, by simp; omega, fun i x hx => ?_⟩
  have hi : i < len := by have := (List.getElem?_eq_some_iff.1 hx).1; simpa using this
  have hxe : x = f i := by simpa [hi, eq_comm] using hx
  subst hxe
  obtain ⟨q0, q1, q2, q3⟩ := hf i hi
  exact ⟨a, rfl, by rwa [addB] at q0, q1, q2, q3⟩
end
end Go.Proofs.YtglbamalagacgaaGreat

namespace Go.Proofs.YtglbamalagacgaaGreat
open Go.ChangeShapes Go.WideShapes Go.ChangeAt Go.RowKit Go.Deep
theorem Tryz.own : ownKnob Tryz.prog.godebug = none := by kernel_rfl
theorem Tryz.laidOut : laidOutB Tryz.prog = true := by kernel_rfl
section
variable {H : Type} {enc : TypeId × Value -> H}
set_option maxRecDepth 100000 in
theorem cfg_open {W : World} {base : Nat} {v : Value} {d : DataW H} {p : List MemPlace} (hv : Value.okWide Tryz.prog W .any base 23 v) (h : DataW.Trod enc Tryz.prog W 0 (fun _ => true) true 23 v d p) : ∃ cf, v = cfgV cf := by
 obtain ⟨v0, v1, v2, v3, y0, y1, y2, y3, n, rfl, _, _, h0, h1, h2, h3⟩ := Joins.open_agg4 Tryz.underlying23 (by kernel_rfl) (by kernel_rfl) hv h
 obtain ⟨z0, rfl⟩ := int_cell h0
 obtain ⟨z1, rfl⟩ := int_cell h1
 obtain ⟨z2, rfl⟩ := int_cell h2
 obtain ⟨z3, rfl⟩ := int_cell h3
 exact ⟨⟨z0, z1, z2, z3⟩, rfl⟩
end
end Go.Proofs.YtglbamalagacgaaGreat

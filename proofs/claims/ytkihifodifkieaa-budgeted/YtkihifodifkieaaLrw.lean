import Derived.Test.YtkihifodifkieaaLbu
import Derived.Test.YtkihifodifkieaaRows
import Derived.ProofKit
import Derived.Deep.Slices
import Derived.Lib.SmallJoins
namespace Go.Proofs.Ytkihifodifkieaa
open Go.ChangeShapes Go.WideShapes Go.ChangeAt Go.RowKit Go.Deep

theorem add_pos (B : Addr) (j : Nat) (h : j ≠ 0) : B.add j = ⟨B.block, B.off + j, none⟩ := by unfold Addr.add; rw [if_neg h]

section
variable {H : Type} {enc : TypeId × Value → H} {w : World} {base : Nat} {held : Bool}

theorem int_cell {n : Nat} {v : Value} {y : DataW H × List MemPlace} {spare : Nat → Bool} (h : DataW.trod enc Try.prog w base spare held n 3 [v] = some y) : ∃ z, v = .int .i64 z := by
  obtain ⟨z, h1, _⟩ := DataW.trod_int Try.underlying3 h
  exact ⟨z, by simpa using h1⟩

theorem cell_lt {v : Value} {a : Addr} (h : w.cell? a = some v) : a.block < w.heap.size := World.block_lt_of_cell? w a h

theorem list3 {α : Type} {l : List α} (h : l.length = 3) : ∃ a b c, l = [a, b, c] := by
  match l, h with
  | [a, b, c], _ => exact ⟨a, b, c, rfl⟩
theorem list5 {α : Type} {l : List α} (h : l.length = 5) : ∃ a b c d e, l = [a, b, c, d, e] := by
  match l, h with
  | [a, b, c, d, e], _ => exact ⟨a, b, c, d, e, rfl⟩

theorem chg_at {n : Nat} {B : Addr} {cs : List Value} {y : DataW H × List MemPlace} {spare : Nat → Bool} (h1 : w.cells? base B 3 = some cs) (h2 : DataW.trod enc Try.prog w base spare held n 72 cs = some y) :
    ∃ x : Chg, B.block < w.heap.size ∧ w.cell? B = some (.int .i64 x.a) ∧ w.cell? ⟨B.block, B.off + 1, none⟩ = some (.int .i64 x.l) ∧ w.cell? ⟨B.block, B.off + 2, none⟩ = some (.int .i64 x.n) := by
  obtain ⟨_, hlen, hcell⟩ := World.cells?_some h1
  obtain ⟨v0, v1, v2, rfl⟩ := list3 hlen
  obtain ⟨y0, y1, y2, k, _, _, g0, g1, g2⟩ := trod_struct3 Try.underlying72 h2
  have k3 : Try.prog.cellsOf 3 = 1 := by kernel_rfl
  simp only [k3, List.drop_zero, List.take_succ_cons, List.take_zero, List.drop_succ_cons] at g0 g1 g2
  obtain ⟨z0, rfl⟩ := int_cell g0
  obtain ⟨z1, rfl⟩ := int_cell g1
  obtain ⟨z2, rfl⟩ := int_cell g2
  have e0 := hcell 0 (by omega)
  have e1 := hcell 1 (by omega)
  have e2 := hcell 2 (by omega)
  rw [add_pos B 1 (by omega)] at e1
  rw [add_pos B 2 (by omega)] at e2
  have e0' : w.cell? B = some (.int .i64 z0) := by simpa [Addr.add] using e0
  exact ⟨⟨z0, z1, z2⟩, cell_lt e0', e0', by simpa using e1, by simpa using e2⟩

theorem chgs_open {n : Nat} {v : Value} {y : DataW H × List MemPlace} {spare : Nat → Bool} (h : DataW.trod enc Try.prog w base spare held n 30 [v] = some y) : ∃ cs, ChgsAt w v cs := by
  have k3 : Try.prog.cellsOf 72 = 3 := by kernel_rfl
  rcases open_slice Try.underlying30 h with ⟨h0, _⟩ | ⟨a, len, cap, m, n, D, Pl, h0, hb, hl, hm, hmm, _, hx⟩
  · refine ⟨[], none, 0, by simpa using h0, Nat.zero_le _, fun i x hx => by simp at hx⟩
  · rw [k3] at hx
    have hlm : len ≤ m := by rw [hmm]; split <;> omega
    have each : ∀ i, i < len → ∃ x : Chg, (a.add (i * 3)).block < w.heap.size ∧ w.cell? (a.add (i * 3)) = some (.int .i64 x.a) ∧ w.cell? ⟨(a.add (i * 3)).block, (a.add (i * 3)).off + 1, none⟩ = some (.int .i64 x.l) ∧ w.cell? ⟨(a.add (i * 3)).block, (a.add (i * 3)).off + 2, none⟩ = some (.int .i64 x.n) := fun i hi => by
      obtain ⟨cs', h1, h2⟩ := hx i (by omega)
      exact chg_at h1 h2
    haveI : Inhabited Chg := ⟨⟨0, 0, 0⟩⟩
    obtain ⟨f, hf⟩ := choose_lt each
    refine ⟨(List.range len).map f, some a, cap, by simpa using h0, by simp; omega, fun i x hx => ?_⟩
    have hi : i < len := by have := (List.getElem?_eq_some_iff.1 hx).1; simpa using this
    have hxe : x = f i := by simpa [hi, eq_comm] using hx
    subst hxe
    obtain ⟨q0, q1, q2, q3⟩ := hf i hi
    exact ⟨a, rfl, by rwa [addB] at q0, q1, q2, q3⟩

theorem stp_at {n : Nat} {B : Addr} {cs : List Value} {y : DataW H × List MemPlace} {spare : Nat → Bool} (h1 : w.cells? base B 5 = some cs) (h2 : DataW.trod enc Try.prog w base spare held n 32 cs = some y) :
    ∃ x : Stp, B.block < w.heap.size ∧ ChgsAt w x.v x.cs ∧ w.cell? B = some (.int .i64 x.k) ∧ w.cell? ⟨B.block, B.off + 1, none⟩ = some (.int .i64 x.a) ∧ w.cell? ⟨B.block, B.off + 2, none⟩ = some (.int .i64 x.l) ∧ w.cell? ⟨B.block, B.off + 3, none⟩ = some (.int .i64 x.n) ∧ w.cell? ⟨B.block, B.off + 4, none⟩ = some x.v := by
  obtain ⟨_, hlen, hcell⟩ := World.cells?_some h1
  obtain ⟨v0, v1, v2, v3, v4, rfl⟩ := list5 hlen
  obtain ⟨xs, k, _, _, _, hxl, hf⟩ := DataW.trod_struct Try.underlying32 h2
  obtain ⟨y0, y1, y2, y3, y4, rfl⟩ := list5 hxl
  have g0 := hf 0 _ rfl
  have g1 := hf 1 _ rfl
  have g2 := hf 2 _ rfl
  have g3 := hf 3 _ rfl
  have g4 := hf 4 _ rfl
  have k3 : Try.prog.cellsOf 3 = 1 := by kernel_rfl
  have k4 : Try.prog.cellsOf 30 = 1 := by kernel_rfl
  simp [k3] at g0 g1 g2 g3
  simp [k4] at g4
  obtain ⟨z0, rfl⟩ := int_cell g0
  obtain ⟨z1, rfl⟩ := int_cell g1
  obtain ⟨z2, rfl⟩ := int_cell g2
  obtain ⟨z3, rfl⟩ := int_cell g3
  obtain ⟨c, hc⟩ := chgs_open g4
  have e0 := hcell 0 (by omega)
  have e1 := hcell 1 (by omega)
  have e2 := hcell 2 (by omega)
  have e3 := hcell 3 (by omega)
  have e4 := hcell 4 (by omega)
  rw [add_pos B 1 (by omega)] at e1
  rw [add_pos B 2 (by omega)] at e2
  rw [add_pos B 3 (by omega)] at e3
  rw [add_pos B 4 (by omega)] at e4
  have e0' : w.cell? B = some (.int .i64 z0) := by simpa [Addr.add] using e0
  exact ⟨⟨z0, z1, z2, z3, v4, c⟩, cell_lt e0', hc, e0', by simpa using e1, by simpa using e2, by simpa using e3, by simpa using e4⟩

theorem steps_open {n : Nat} {v : Value} {y : DataW H × List MemPlace} {spare : Nat → Bool} (h : DataW.trod enc Try.prog w base spare held n 24 [v] = some y) : ∃ ss, StepsAt w v ss := by
  have k5 : Try.prog.cellsOf 32 = 5 := by kernel_rfl
  rcases open_slice Try.underlying24 h with ⟨h0, _⟩ | ⟨a, len, cap, m, n, D, Pl, h0, hb, hl, hm, hmm, _, hx⟩
  · refine ⟨[], none, 0, by simpa using h0, Nat.zero_le _, fun i x hx => by simp at hx⟩
  · rw [k5] at hx
    have hlm : len ≤ m := by rw [hmm]; split <;> omega
    have each : ∀ i, i < len → ∃ x : Stp, (a.add (i * 5)).block < w.heap.size ∧ ChgsAt w x.v x.cs ∧ w.cell? (a.add (i * 5)) = some (.int .i64 x.k) ∧ w.cell? ⟨(a.add (i * 5)).block, (a.add (i * 5)).off + 1, none⟩ = some (.int .i64 x.a) ∧ w.cell? ⟨(a.add (i * 5)).block, (a.add (i * 5)).off + 2, none⟩ = some (.int .i64 x.l) ∧ w.cell? ⟨(a.add (i * 5)).block, (a.add (i * 5)).off + 3, none⟩ = some (.int .i64 x.n) ∧ w.cell? ⟨(a.add (i * 5)).block, (a.add (i * 5)).off + 4, none⟩ = some x.v := fun i hi => by
      obtain ⟨cs', h1, h2⟩ := hx i (by omega)
      exact stp_at h1 h2
    haveI : Inhabited Stp := ⟨⟨0, 0, 0, 0, .slice none 0 0, []⟩⟩
    obtain ⟨f, hf⟩ := choose_lt each
    refine ⟨(List.range len).map f, some a, cap, by simpa using h0, by simp; omega, fun i x hx => ?_⟩
    have hi : i < len := by have := (List.getElem?_eq_some_iff.1 hx).1; simpa using this
    have hxe : x = f i := by simpa [hi, eq_comm] using hx
    subst hxe
    obtain ⟨q0, q⟩ := hf i hi
    exact ⟨a, rfl, by rwa [addB] at q0, q⟩

end
end Go.Proofs.Ytkihifodifkieaa

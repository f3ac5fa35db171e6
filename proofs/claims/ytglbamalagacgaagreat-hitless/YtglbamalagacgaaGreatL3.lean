import Derived.Test.YtglbamalagacgaaGreatS1
import Derived.Test.YtglbamalagacgaaGreatRows
import Derived.ProofKit
import Derived.Deep.Slices
import Derived.Lib.SmallJoins
import Derived.Test.YtglbamalagacgaaGreatChecked
namespace Go.Proofs.YtglbamalagacgaaGreat
open Go.RowKit Go.Shelf

attribute [local go_sem] Oper.semAt_some

-- A SCRIPT THAT CAME IN
structure Stp where
  k : Int
  a : Int
  l : Int
  n : Int
  v : Value
  cs : List Chg
def StepsAt (w : World) (v : Value) (ss : List Stp) : Prop := ∃ a cap, v = .slice a ss.length cap ∧ ss.length ≤ maxLen ∧ ∀ i x, ss[i]? = some x → ∃ A, a = some A ∧ A.block < w.heap.size ∧ ChgsAt w x.v x.cs ∧
  w.cell? (A.add (i * 5)) = some (.int .i64 x.k) ∧ w.cell? ⟨(A.add (i * 5)).block, (A.add (i * 5)).off + 1, none⟩ = some (.int .i64 x.a) ∧ w.cell? ⟨(A.add (i * 5)).block, (A.add (i * 5)).off + 2, none⟩ = some (.int .i64 x.l) ∧ w.cell? ⟨(A.add (i * 5)).block, (A.add (i * 5)).off + 3, none⟩ = some (.int .i64 x.n) ∧ w.cell? ⟨(A.add (i * 5)).block, (A.add (i * 5)).off + 4, none⟩ = some x.v
theorem StepsAt.later {w w' : World} {v : Value} {ss : List Stp} (h : StepsAt w v ss) (hB : Below w.heap.size w w') : StepsAt w' v ss := by
  obtain ⟨a, cap, h1, h2, h3⟩ := h
  refine ⟨a, cap, h1, h2, fun i x hx => ?_⟩
  obtain ⟨A, h4, h5, h6, r0, r1, r2, r3, r4⟩ := h3 i x hx
  have hk : ∀ j, (⟨(A.add (i * 5)).block, (A.add (i * 5)).off + j, none⟩ : Addr).block < w.heap.size := fun j => by simpa [addB] using h5
  exact ⟨A, h4, by have := hB.size; omega, h6.later hB, (hB.cell (p := A.add (i * 5)) (by simpa [addB] using h5)).trans r0, (hB.cell (p := ⟨(A.add (i * 5)).block, (A.add (i * 5)).off + 1, none⟩) (hk 1)).trans r1, (hB.cell (p := ⟨(A.add (i * 5)).block, (A.add (i * 5)).off + 2, none⟩) (hk 2)).trans r2, (hB.cell (p := ⟨(A.add (i * 5)).block, (A.add (i * 5)).off + 3, none⟩) (hk 3)).trans r3, (hB.cell (p := ⟨(A.add (i * 5)).block, (A.add (i * 5)).off + 4, none⟩) (hk 4)).trans r4⟩

theorem below_only {B : Nat} {w a b : World} {F : List Nat} (h : Below B w a) (hO : Only F a b) (hF : ∀ k ∈ F, B ≤ k) (hB : B ≤ w.heap.size) : Below B w b :=
  ⟨hO.os.trans h.os, hO.tape.trans h.tape, hO.output.trans h.output, Nat.le_trans h.size hO.size, fun k hk => (hO.block k (by have := h.size; omega) (fun hf => by have := hF k hf; omega)).trans (h.block k hk)⟩

-- a law's state between two steps; w1: the world that it began in
structure Mid (c : TabC) (w1 w : World) (bk g t : Nat) (cf : Cfg) (rs : Nat → Int) (s : c.S) (F : List Nat) : Prop where
  law : Law c w bk g t cf rs s F
  below : Below w1.heap.size w1 w
  b1 : w1.heap.size ≤ bk
  b2 : w1.heap.size ≤ g
  b3 : ∀ k ∈ F, w1.heap.size ≤ k
theorem Mid.later {c : TabC} {w1 w w' : World} {bk g t : Nat} {cf : Cfg} {rs : Nat → Int} {s : c.S} {F : List Nat} (h : Mid c w1 w bk g t cf rs s F) (hB : Below w.heap.size w w') : Mid c w1 w' bk g t cf rs s F :=
  ⟨h.law.later hB, h.below.trans (hB.mono h.below.size), h.b1, h.b2, h.b3⟩
theorem Mid.next {c : TabC} {w1 w w' : World} {bk g t : Nat} {cf : Cfg} {rs : Nat → Int} {s : c.S} {F : List Nat} {r : Ending} (h : Mid c w1 w bk g t cf rs s F) (hp : LawPost c bk g t cf s F w r w') : r = .returned (.bool true) ∧ ∃ g' rs' s' F', Mid c w1 w' bk g' t cf rs' s' F' ∧ c.fits s s' := by
  obtain ⟨h1, g', rs', s', F', h2, h3, h4, h5⟩ := hp
  have hs := h.below.size
  have hF : ∀ k ∈ bk :: g :: F, w1.heap.size ≤ k := fun k hk => by
    simp at hk
    rcases hk with rfl | rfl | hk
    · exact h.b1
    · exact h.b2
    · exact h.b3 k hk
  have hF' : ∀ k ∈ bk :: g' :: F', w1.heap.size ≤ k := fun k hk => (h5 k hk).elim (hF k) (fun h => by omega)
  exact ⟨h1, g', rs', s', F', ⟨h2, below_only h.below h4 hF (Nat.le_refl _), h.b1, hF' g' (by simp), fun k hk => hF' k (by simp [hk])⟩, h3⟩
theorem StepsAt.step {c : TabC} {w1 w : World} {bk g t : Nat} {cf : Cfg} {rs : Nat → Int} {s : c.S} {F : List Nat} {x : Stp} (hx : ChgsAt w1 x.v x.cs) (h : Mid c w1 w bk g t cf rs s F) : ChgsAt w x.v x.cs ∧ Apart x.v F := by
  refine ⟨hx.later h.below, fun A n cap hv hn hF => ?_⟩
  obtain ⟨a, cap', h1, h2, h3⟩ := hx
  rw [hv] at h1
  cases h1
  obtain ⟨A', h4, h5, _⟩ := h3 0 x.cs[0] (List.getElem?_eq_getElem hn)
  cases h4
  have := h.b3 _ hF
  omega

set_option maxHeartbeats 2000000 in
set_option maxRecDepth 4000 in
theorem budgeted_any (c : TabC) (hn : c.News) (hc : c.Works) (hap : c.Apps) (hgo : c.Goes) (cf : Cfg) (v : Value) (ss : List Stp) (w : World) (hs : StepsAt w v ss) :
    Calls Tryz.prog 7 #[cfgV cf, v] w fun r w' => r = .returned (.bool true) ∧ Below w.heap.size w w' := by
  have hB1 : Below w.heap.size w (w.alloc (.cells #[.int .i64 cf.e, .int .i64 cf.b, .int .i64 cf.c, .int .i64 cf.l] 23)) := (Below.refl _ w).alloc (Nat.le_refl _) _
  have HB1 := hide hB1
  by_cases hcf : isCfg cf
  · have hcall := hide (opened_yes c hn cf (w.alloc (.cells #[.int .i64 cf.e, .int .i64 cf.b, .int .i64 cf.c, .int .i64 cf.l] 23)) hcf)
    have Hs := hide (hs.later hB1)
    obtain ⟨va, vc, rfl, hml, _⟩ := hs
    have d8 : cf.l ≤ 16 := hcf.2.2.2.2.2.2.2
    obtain ⟨e, b, ch, lg⟩ := cf
    unfold maxLen at hml
    clear hB1
    go_enter Tryz.func7, Tryz.ntmps7
    go_wp2_with fail
    refine hcall.out.mono ?_
    rintro _ w2 ⟨bk, g, t, s, F, rfl, hL, hb2, h1, h2, h3, -⟩
    have hM : Mid c (w.alloc (.cells #[.int .i64 e, .int .i64 b, .int .i64 ch, .int .i64 lg] 23)) w2 bk g t ⟨e, b, ch, lg⟩ (fun _ => 0) s F := ⟨hL, hb2, h1, h2, h3⟩
    have HM := hide hM
    clear hM hL hb2 h1 h2 h3 hcall
    go_wp2
    go_loopw [7] (fun sl wr => ∃ (i : Nat) (g : Nat) (rs : Nat → Int) (s : c.S) (F : List Nat), i ≤ ss.length ∧ sl = .int .i64 (i : Int) ∧ Hid (Mid c (w.alloc (.cells #[.int .i64 e, .int .i64 b, .int .i64 ch, .int .i64 lg] 23)) wr bk g t ⟨e, b, ch, lg⟩ rs s F)) (fun s _ => ss.length - (intOf s).toNat)
    case atStart => exact ⟨0, g, _, s, F, Nat.zero_le _, rfl, HM⟩
    case round =>
      obtain ⟨i, g, rs, s, F, hi, rfl, HM⟩ := hrel
      by_cases hlt : i < ss.length
      · obtain ⟨x, hx⟩ : ∃ x, ss[i]? = some x := ⟨_, List.getElem?_eq_getElem hlt⟩
        obtain ⟨va', vc', hve, _, hst⟩ := Hs.out
        obtain ⟨A, hA0, hA, hcs, a0, a1, a2, a3, a4⟩ := hst i x hx
        cases hve
        subst hA0
        have hk : ∀ j, (⟨(A.add (i * 5)).block, (A.add (i * 5)).off + j, none⟩ : Addr).block < (w.alloc (.cells #[.int .i64 e, .int .i64 b, .int .i64 ch, .int .i64 lg] 23)).heap.size := fun j => by simpa [addB] using hA
        obtain ⟨xk, xa, xl, xn, xv, xcs⟩ := x
        simp only at hcs a0 a1 a2 a3 a4
        have j0 : (0 : Int) ≤ (i : Int) := by omega
        have j1 : (i : Int) < (ss.length : Int) := by omega
        have hwr : IntKind.i64.wrap ((i : Int) + 1) = (i : Int) + 1 := by rw [IntKind.wrap_i64]; omega
        have Hcs := hide hcs
        have Ha := hide (And.intro a0 (And.intro a1 (And.intro a2 (And.intro a3 a4))))
        clear hst hx hcs a0 a1 a2 a3 a4
        go_wp2_with fail
        refine (use_any c hc wr bk g t _ rs s F HM.out.law).mono ?_
        rintro _ w3 ⟨rfl, hb3⟩
        have M3 := HM.out.later hb3
        have HM3 := hide M3
        have a0 := (M3.below.cell (p := A.add (i * 5)) (by simpa [addB] using hA)).trans Ha.out.1
        have a1 := (M3.below.cell (p := ⟨(A.add (i * 5)).block, (A.add (i * 5)).off + 1, none⟩) (hk 1)).trans Ha.out.2.1
        have a2 := (M3.below.cell (p := ⟨(A.add (i * 5)).block, (A.add (i * 5)).off + 2, none⟩) (hk 2)).trans Ha.out.2.2.1
        have a3 := (M3.below.cell (p := ⟨(A.add (i * 5)).block, (A.add (i * 5)).off + 3, none⟩) (hk 3)).trans Ha.out.2.2.2.1
        have a4 := (M3.below.cell (p := ⟨(A.add (i * 5)).block, (A.add (i * 5)).off + 4, none⟩) (hk 4)).trans Ha.out.2.2.2.2
        have hstp := hide (step_any c hc hap hgo w3 bk g t _ rs s F M3.law xk xa xl xn xv xcs (StepsAt.step (x := ⟨xk, xa, xl, xn, xv, xcs⟩) Hcs.out M3).1 (StepsAt.step (x := ⟨xk, xa, xl, xn, xv, xcs⟩) Hcs.out M3).2)
        obtain ⟨ya, yc, rfl⟩ : ∃ ya yc, xv = .slice ya xcs.length yc := by obtain ⟨p, q, h, _⟩ := Hcs.out; exact ⟨p, q, h⟩
        clear hb3 M3 Ha
        go_wp2_with fail
        refine hstp.out.mono ?_
        rintro _ w4 hpost
        obtain ⟨rfl, g', rs', s', F', M4, hf⟩ := HM3.out.next hpost
        clear hpost a0 a1 a2 a3 a4 hstp
        have hu := hide (use_any c hc w4 bk g' t _ rs' s' F' M4.law)
        have HM4 := hide M4
        clear M4
        go_wp2_with fail
        refine hu.out.mono ?_
        rintro _ w5 ⟨rfl, hb5⟩
        have M5 := HM4.out.later hb5
        have x5 := M5.law.book.x
        have l5 := M5.law.book.lt.1
        have hcl := hide (hc.cells w5 t s' F' M5.law.tab)
        have HM5 := hide M5
        clear M5 hu hb5
        go_wp2_with fail
        refine hcl.out.mono ?_
        rintro _ w6 ⟨rfl, hb6⟩
        have M6 := HM5.out.later hb6
        obtain ⟨q0, q1, q2, q3, q4, q5, q6, q7, q8⟩ := c.nums M6.law.tab
        have hlg : (c.log s').1 = lg := by rw [M6.law.lg]
        have HM6 := hide M6
        have c3 : w6.cell? ⟨w.heap.size, 3, none⟩ = some (.int .i64 lg) := (M6.below.cell (p := ⟨w.heap.size, 3, none⟩) (by simp)).trans (by simp)
        have hsz6 : w.heap.size < w6.heap.size := by have := M6.below.size; simp at this; omega
        clear M6 hcl hb6 x5 l5
        have next := hide (show ∀ o, ∃ (i' g : Nat) (rs : Nat → Int) (s : c.S) (F : List Nat), i' ≤ ss.length ∧ Value.int .i64 ((i : Int) + 1) = .int .i64 (i' : Int) ∧ Hid (Mid c (w.alloc (.cells #[.int .i64 e, .int .i64 b, .int .i64 ch, .int .i64 lg] 23)) (w6.alloc o) bk g t ⟨e, b, ch, lg⟩ rs s F) from
          fun o => ⟨i + 1, g', rs', s', F', by omega, by simp, HM6.out.later ((Below.refl _ w6).alloc (Nat.le_refl _) o)⟩)
        have p0 : decide (c.act s' < 0) = false := decide_eq_false (by omega)
        have p1 : decide (c.tgt s' < 0) = false := decide_eq_false (by omega)
        have p2 : decide (c.lgd s' < 0) = false := decide_eq_false (by omega)
        have p3 : decide (lg < c.lgd s') = false := decide_eq_false (by omega)
        by_cases hmore : c.use s < c.use s'
        · have p4 : decide (c.bud s' < c.use s') = false := decide_eq_false (by rcases hf.1 with h | h <;> omega)
          go_wp2
          exact ⟨next.out _, by show ss.length - ((i : Int) + 1).toNat < ss.length - (i : Int).toNat; omega⟩
        · have p4 : decide (c.use s < c.use s') = false := decide_eq_false hmore
          go_wp2
          exact ⟨next.out _, by show ss.length - ((i : Int) + 1).toNat < ss.length - (i : Int).toNat; omega⟩
      · obtain rfl : i = ss.length := by omega
        have fin := hide (HB1.out.trans (HM.out.below.mono HB1.out.size))
        go_wp2
        go_ret
        exact ⟨rfl, fin.out⟩
  · have hcall := hide (opened_no c hn cf (w.alloc (.cells #[.int .i64 cf.e, .int .i64 cf.b, .int .i64 cf.c, .int .i64 cf.l] 23)) hcf)
    obtain ⟨va, vc, rfl, _, _⟩ := hs
    obtain ⟨e, b, ch, lg⟩ := cf
    clear hB1
    go_enter Tryz.func7, Tryz.ntmps7
    go_wp2_with fail
    refine hcall.out.mono ?_
    rintro _ w2 ⟨rfl, hb2⟩
    have fin := hide (HB1.out.trans (hb2.mono HB1.out.size))
    clear hcall hb2
    go_wp2
    go_ret
    exact ⟨rfl, fin.out⟩

end Go.Proofs.YtglbamalagacgaaGreat

namespace Go.Proofs.YtglbamalagacgaaGreat
open Go.ChangeShapes Go.WideShapes Go.ChangeAt Go.RowKit Go.Deep

theorem add_pos (B : Addr) (j : Nat) (h : j ≠ 0) : B.add j = ⟨B.block, B.off + j, none⟩ := by unfold Addr.add; rw [if_neg h]

section
variable {H : Type} {enc : TypeId × Value → H} {w : World} {base : Nat} {held : Bool}

theorem int_cell {n : Nat} {v : Value} {y : DataW H × List MemPlace} {spare : Nat → Bool} (h : DataW.trod enc Tryz.prog w base spare held n 3 [v] = some y) : ∃ z, v = .int .i64 z := by
  obtain ⟨z, h1, _⟩ := DataW.trod_int Tryz.underlying3 h
  exact ⟨z, by simpa using h1⟩

theorem cell_lt {v : Value} {a : Addr} (h : w.cell? a = some v) : a.block < w.heap.size := World.block_lt_of_cell? w a h

theorem list3 {α : Type} {l : List α} (h : l.length = 3) : ∃ a b c, l = [a, b, c] := by
  match l, h with
  | [a, b, c], _ => exact ⟨a, b, c, rfl⟩
theorem list5 {α : Type} {l : List α} (h : l.length = 5) : ∃ a b c d e, l = [a, b, c, d, e] := by
  match l, h with
  | [a, b, c, d, e], _ => exact ⟨a, b, c, d, e, rfl⟩

theorem chg_at {n : Nat} {B : Addr} {cs : List Value} {y : DataW H × List MemPlace} {spare : Nat → Bool} (h1 : w.cells? base B 3 = some cs) (h2 : DataW.trod enc Tryz.prog w base spare held n 103 cs = some y) :
    ∃ x : Chg, B.block < w.heap.size ∧ w.cell? B = some (.int .i64 x.a) ∧ w.cell? ⟨B.block, B.off + 1, none⟩ = some (.int .i64 x.l) ∧ w.cell? ⟨B.block, B.off + 2, none⟩ = some (.int .i64 x.n) := by
  obtain ⟨_, hlen, hcell⟩ := World.cells?_some h1
  obtain ⟨v0, v1, v2, rfl⟩ := list3 hlen
  obtain ⟨y0, y1, y2, k, _, _, g0, g1, g2⟩ := trod_struct3 Tryz.underlying103 h2
  have k3 : Tryz.prog.cellsOf 3 = 1 := by kernel_rfl
  simp only [k3, List.drop_zero, List.take_succ_cons, List.take_zero, List.drop_succ_cons] at g0 g1 g2
  obtain ⟨z0, rfl⟩ := int_cell g0
  obtain ⟨z1, rfl⟩ := int_cell g1
  obtain ⟨z2, rfl⟩ := int_cell g2
  have e0 := hcell 0 (by omega)
  have e1 := hcell 1 (by omega)
  have e2 := hcell 2 (by omega)
  rw [add_pos B 1 (by omega)] at e1
  rw [add_pos B 2 (by omega)] at e2
  have e0' : w.cell? B = some (.int .i64 z0) := by simpa [Addr.add] using e0
  exact ⟨⟨z0, z1, z2⟩, cell_lt e0', e0', by simpa using e1, by simpa using e2⟩

theorem chgs_open {n : Nat} {v : Value} {y : DataW H × List MemPlace} {spare : Nat → Bool} (h : DataW.trod enc Tryz.prog w base spare held n 33 [v] = some y) : ∃ cs, ChgsAt w v cs := by
  have k3 : Tryz.prog.cellsOf 103 = 3 := by kernel_rfl
  rcases open_slice Tryz.underlying33 h with ⟨h0, _⟩ | ⟨a, len, cap, m, n, D, Pl, h0, hb, hl, hm, hmm, _, hx⟩
  · refine ⟨[], none, 0, by simpa using h0, Nat.zero_le _, fun i x hx => by simp at hx⟩
  · rw [k3] at hx
    have hlm : len ≤ m := by rw [hmm]; split <;> omega
    have each : ∀ i, i < len → ∃ x : Chg, (a.add (i * 3)).block < w.heap.size ∧ w.cell? (a.add (i * 3)) = some (.int .i64 x.a) ∧ w.cell? ⟨(a.add (i * 3)).block, (a.add (i * 3)).off + 1, none⟩ = some (.int .i64 x.l) ∧ w.cell? ⟨(a.add (i * 3)).block, (a.add (i * 3)).off + 2, none⟩ = some (.int .i64 x.n) := fun i hi => by
      obtain ⟨cs', h1, h2⟩ := hx i (by omega)
      exact chg_at h1 h2
    haveI : Inhabited Chg := ⟨⟨0, 0, 0⟩⟩
    obtain ⟨f, hf⟩ := choose_lt each
    refine ⟨(List.range len).map f, some a, cap, by simpa using h0, by simp; omega, fun i x hx => ?_⟩
    have hi : i < len := by have := (List.getElem?_eq_some_iff.1 hx).1; simpa using this
    have hxe : x = f i := by simpa [hi, eq_comm] using hx
    subst hxe
    obtain ⟨q0, q1, q2, q3⟩ := hf i hi
    exact ⟨a, rfl, by rwa [addB] at q0, q1, q2, q3⟩

theorem stp_at {n : Nat} {B : Addr} {cs : List Value} {y : DataW H × List MemPlace} {spare : Nat → Bool} (h1 : w.cells? base B 5 = some cs) (h2 : DataW.trod enc Tryz.prog w base spare held n 35 cs = some y) :
    ∃ x : Stp, B.block < w.heap.size ∧ ChgsAt w x.v x.cs ∧ w.cell? B = some (.int .i64 x.k) ∧ w.cell? ⟨B.block, B.off + 1, none⟩ = some (.int .i64 x.a) ∧ w.cell? ⟨B.block, B.off + 2, none⟩ = some (.int .i64 x.l) ∧ w.cell? ⟨B.block, B.off + 3, none⟩ = some (.int .i64 x.n) ∧ w.cell? ⟨B.block, B.off + 4, none⟩ = some x.v := by
  obtain ⟨_, hlen, hcell⟩ := World.cells?_some h1
  obtain ⟨v0, v1, v2, v3, v4, rfl⟩ := list5 hlen
  obtain ⟨xs, k, _, _, _, hxl, hf⟩ := DataW.trod_struct Tryz.underlying35 h2
  obtain ⟨y0, y1, y2, y3, y4, rfl⟩ := list5 hxl
  have g0 := hf 0 _ rfl
  have g1 := hf 1 _ rfl
  have g2 := hf 2 _ rfl
  have g3 := hf 3 _ rfl
  have g4 := hf 4 _ rfl
  have k3 : Tryz.prog.cellsOf 3 = 1 := by kernel_rfl
  have k4 : Tryz.prog.cellsOf 33 = 1 := by kernel_rfl
  simp [k3] at g0 g1 g2 g3
  simp [k4] at g4
  obtain ⟨z0, rfl⟩ := int_cell g0
  obtain ⟨z1, rfl⟩ := int_cell g1
  obtain ⟨z2, rfl⟩ := int_cell g2
  obtain ⟨z3, rfl⟩ := int_cell g3
  obtain ⟨c, hc⟩ := chgs_open g4
  have e0 := hcell 0 (by omega)
  have e1 := hcell 1 (by omega)
  have e2 := hcell 2 (by omega)
  have e3 := hcell 3 (by omega)
  have e4 := hcell 4 (by omega)
  rw [add_pos B 1 (by omega)] at e1
  rw [add_pos B 2 (by omega)] at e2
  rw [add_pos B 3 (by omega)] at e3
  rw [add_pos B 4 (by omega)] at e4
  have e0' : w.cell? B = some (.int .i64 z0) := by simpa [Addr.add] using e0
  exact ⟨⟨z0, z1, z2, z3, v4, c⟩, cell_lt e0', hc, e0', by simpa using e1, by simpa using e2, by simpa using e3, by simpa using e4⟩

theorem steps_open {n : Nat} {v : Value} {y : DataW H × List MemPlace} {spare : Nat → Bool} (h : DataW.trod enc Tryz.prog w base spare held n 28 [v] = some y) : ∃ ss, StepsAt w v ss := by
  have k5 : Tryz.prog.cellsOf 35 = 5 := by kernel_rfl
  rcases open_slice Tryz.underlying28 h with ⟨h0, _⟩ | ⟨a, len, cap, m, n, D, Pl, h0, hb, hl, hm, hmm, _, hx⟩
  · refine ⟨[], none, 0, by simpa using h0, Nat.zero_le _, fun i x hx => by simp at hx⟩
  · rw [k5] at hx
    have hlm : len ≤ m := by rw [hmm]; split <;> omega
    have each : ∀ i, i < len → ∃ x : Stp, (a.add (i * 5)).block < w.heap.size ∧ ChgsAt w x.v x.cs ∧ w.cell? (a.add (i * 5)) = some (.int .i64 x.k) ∧ w.cell? ⟨(a.add (i * 5)).block, (a.add (i * 5)).off + 1, none⟩ = some (.int .i64 x.a) ∧ w.cell? ⟨(a.add (i * 5)).block, (a.add (i * 5)).off + 2, none⟩ = some (.int .i64 x.l) ∧ w.cell? ⟨(a.add (i * 5)).block, (a.add (i * 5)).off + 3, none⟩ = some (.int .i64 x.n) ∧ w.cell? ⟨(a.add (i * 5)).block, (a.add (i * 5)).off + 4, none⟩ = some x.v := fun i hi => by
      obtain ⟨cs', h1, h2⟩ := hx i (by omega)
      exact stp_at h1 h2
    haveI : Inhabited Stp := ⟨⟨0, 0, 0, 0, .slice none 0 0, []⟩⟩
    obtain ⟨f, hf⟩ := choose_lt each
    refine ⟨(List.range len).map f, some a, cap, by simpa using h0, by simp; omega, fun i x hx => ?_⟩
    have hi : i < len := by have := (List.getElem?_eq_some_iff.1 hx).1; simpa using this
    have hxe : x = f i := by simpa [hi, eq_comm] using hx
    subst hxe
    obtain ⟨q0, q⟩ := hf i hi
    exact ⟨a, rfl, by rwa [addB] at q0, q⟩

end
end Go.Proofs.YtglbamalagacgaaGreat

namespace Go.Proofs.YtglbamalagacgaaGreat
open Go.ChangeShapes Go.WideShapes Go.ChangeAt Go.RowKit Go.Deep

theorem Tryz.own : ownKnob Tryz.prog.godebug = none := by kernel_rfl
theorem Tryz.laidOut : laidOutB Tryz.prog = true := by kernel_rfl

section
variable {H : Type} {enc : TypeId × Value → H}

-- a configuration that came in
set_option maxRecDepth 100000 in
theorem cfg_open {W : World} {base : Nat} {v : Value} {d : DataW H} {p : List MemPlace} (hv : Value.okWide Tryz.prog W .any base 23 v) (h : DataW.Trod enc Tryz.prog W 0 (fun _ => true) true 23 v d p) : ∃ cf, v = cfgV cf := by
  obtain ⟨v0, v1, v2, v3, y0, y1, y2, y3, n, rfl, _, _, h0, h1, h2, h3⟩ := Joins.open_agg4 Tryz.underlying23 (by kernel_rfl) (by kernel_rfl) hv h
  obtain ⟨z0, rfl⟩ := int_cell h0
  obtain ⟨z1, rfl⟩ := int_cell h1
  obtain ⟨z2, rfl⟩ := int_cell h2
  obtain ⟨z3, rfl⟩ := int_cell h3
  exact ⟨⟨z0, z1, z2, z3⟩, rfl⟩

end

end Go.Proofs.YtglbamalagacgaaGreat

import Derived.Test.YtkihifodifkieaaLop
namespace Go.Proofs.Ytkihifodifkieaa
open Go.RowKit Go.Shelf

attribute [local go_sem] Oper.semAt_some

-- A SCRIPT THAT CAME IN
structure Stp where
  k : Int
  a : Int
  l : Int
  n : Int
  v : Value
  cs : List Chg
def StepsAt (w : World) (v : Value) (ss : List Stp) : Prop := ∃ a cap, v = .slice a ss.length cap ∧ ss.length ≤ maxLen ∧ ∀ i x, ss[i]? = some x → ∃ A, a = some A ∧ A.block < w.heap.size ∧ ChgsAt w x.v x.cs ∧
  w.cell? (A.add (i * 5)) = some (.int .i64 x.k) ∧ w.cell? ⟨(A.add (i * 5)).block, (A.add (i * 5)).off + 1, none⟩ = some (.int .i64 x.a) ∧ w.cell? ⟨(A.add (i * 5)).block, (A.add (i * 5)).off + 2, none⟩ = some (.int .i64 x.l) ∧ w.cell? ⟨(A.add (i * 5)).block, (A.add (i * 5)).off + 3, none⟩ = some (.int .i64 x.n) ∧ w.cell? ⟨(A.add (i * 5)).block, (A.add (i * 5)).off + 4, none⟩ = some x.v
theorem StepsAt.later {w w' : World} {v : Value} {ss : List Stp} (h : StepsAt w v ss) (hB : Below w.heap.size w w') : StepsAt w' v ss := by
  obtain ⟨a, cap, h1, h2, h3⟩ := h
  refine ⟨a, cap, h1, h2, fun i x hx => ?_⟩
  obtain ⟨A, h4, h5, h6, r0, r1, r2, r3, r4⟩ := h3 i x hx
  have hk : ∀ j, (⟨(A.add (i * 5)).block, (A.add (i * 5)).off + j, none⟩ : Addr).block < w.heap.size := fun j => by simpa [addB] using h5
  exact ⟨A, h4, by have := hB.size; omega, h6.later hB, (hB.cell (p := A.add (i * 5)) (by simpa [addB] using h5)).trans r0, (hB.cell (p := ⟨(A.add (i * 5)).block, (A.add (i * 5)).off + 1, none⟩) (hk 1)).trans r1, (hB.cell (p := ⟨(A.add (i * 5)).block, (A.add (i * 5)).off + 2, none⟩) (hk 2)).trans r2, (hB.cell (p := ⟨(A.add (i * 5)).block, (A.add (i * 5)).off + 3, none⟩) (hk 3)).trans r3, (hB.cell (p := ⟨(A.add (i * 5)).block, (A.add (i * 5)).off + 4, none⟩) (hk 4)).trans r4⟩

theorem below_only {B : Nat} {w a b : World} {F : List Nat} (h : Below B w a) (hO : Only F a b) (hF : ∀ k ∈ F, B ≤ k) (hB : B ≤ w.heap.size) : Below B w b :=
  ⟨hO.os.trans h.os, hO.tape.trans h.tape, hO.output.trans h.output, Nat.le_trans h.size hO.size, fun k hk => (hO.block k (by have := h.size; omega) (fun hf => by have := hF k hf; omega)).trans (h.block k hk)⟩

-- a law's state between two steps; w1: the world that it began in
structure Mid (c : TabC) (w1 w : World) (bk g t : Nat) (cf : Cfg) (rs : Nat → Int) (s : c.S) (F : List Nat) : Prop where
  law : Law c w bk g t cf rs s F
  below : Below w1.heap.size w1 w
  b1 : w1.heap.size ≤ bk
  b2 : w1.heap.size ≤ g
  b3 : ∀ k ∈ F, w1.heap.size ≤ k
theorem Mid.later {c : TabC} {w1 w w' : World} {bk g t : Nat} {cf : Cfg} {rs : Nat → Int} {s : c.S} {F : List Nat} (h : Mid c w1 w bk g t cf rs s F) (hB : Below w.heap.size w w') : Mid c w1 w' bk g t cf rs s F :=
  ⟨h.law.later hB, h.below.trans (hB.mono h.below.size), h.b1, h.b2, h.b3⟩
theorem Mid.next {c : TabC} {w1 w w' : World} {bk g t : Nat} {cf : Cfg} {rs : Nat → Int} {s : c.S} {F : List Nat} {r : Ending} (h : Mid c w1 w bk g t cf rs s F) (hp : LawPost c bk g t cf s F w r w') : r = .returned (.bool true) ∧ ∃ g' rs' s' F', Mid c w1 w' bk g' t cf rs' s' F' ∧ c.fits s s' := by
  obtain ⟨h1, g', rs', s', F', h2, h3, h4, h5⟩ := hp
  have hs := h.below.size
  have hF : ∀ k ∈ bk :: g :: F, w1.heap.size ≤ k := fun k hk => by
    simp at hk
    rcases hk with rfl | rfl | hk
    · exact h.b1
    · exact h.b2
    · exact h.b3 k hk
  have hF' : ∀ k ∈ bk :: g' :: F', w1.heap.size ≤ k := fun k hk => (h5 k hk).elim (hF k) (fun h => by omega)
  exact ⟨h1, g', rs', s', F', ⟨h2, below_only h.below h4 hF (Nat.le_refl _), h.b1, hF' g' (by simp), fun k hk => hF' k (by simp [hk])⟩, h3⟩
theorem StepsAt.step {c : TabC} {w1 w : World} {bk g t : Nat} {cf : Cfg} {rs : Nat → Int} {s : c.S} {F : List Nat} {x : Stp} (hx : ChgsAt w1 x.v x.cs) (h : Mid c w1 w bk g t cf rs s F) : ChgsAt w x.v x.cs ∧ Apart x.v F := by
  refine ⟨hx.later h.below, fun A n cap hv hn hF => ?_⟩
  obtain ⟨a, cap', h1, h2, h3⟩ := hx
  rw [hv] at h1
  cases h1
  obtain ⟨A', h4, h5, _⟩ := h3 0 x.cs[0] (List.getElem?_eq_getElem hn)
  cases h4
  have := h.b3 _ hF
  omega

set_option maxHeartbeats 2000000 in
set_option maxRecDepth 4000 in
theorem budgeted_any (c : TabC) (hn : c.News) (hc : c.Works) (hap : c.Apps) (hgo : c.Goes) (cf : Cfg) (v : Value) (ss : List Stp) (w : World) (hs : StepsAt w v ss) :
    Calls Try.prog 3 #[cfgV cf, v] w fun r w' => r = .returned (.bool true) ∧ Below w.heap.size w w' := by
  have hB1 : Below w.heap.size w (w.alloc (.cells #[.int .i64 cf.e, .int .i64 cf.b, .int .i64 cf.c, .int .i64 cf.l] 23)) := (Below.refl _ w).alloc (Nat.le_refl _) _
  have HB1 := hide hB1
  by_cases hcf : isCfg cf
  · have hcall := hide (opened_yes c hn cf (w.alloc (.cells #[.int .i64 cf.e, .int .i64 cf.b, .int .i64 cf.c, .int .i64 cf.l] 23)) hcf)
    have Hs := hide (hs.later hB1)
    obtain ⟨va, vc, rfl, hml, _⟩ := hs
    have d8 : cf.l ≤ 16 := hcf.2.2.2.2.2.2.2
    obtain ⟨e, b, ch, lg⟩ := cf
    unfold maxLen at hml
    clear hB1
    go_enter Try.func3, Try.ntmps3
    go_wp2_with fail
    refine hcall.out.mono ?_
    rintro _ w2 ⟨bk, g, t, s, F, rfl, hL, hb2, h1, h2, h3⟩
    have hM : Mid c (w.alloc (.cells #[.int .i64 e, .int .i64 b, .int .i64 ch, .int .i64 lg] 23)) w2 bk g t ⟨e, b, ch, lg⟩ (fun _ => 0) s F := ⟨hL, hb2, h1, h2, h3⟩
    have HM := hide hM
    clear hM hL hb2 h1 h2 h3 hcall
    go_wp2
    go_loopw [7] (fun sl wr => ∃ (i : Nat) (g : Nat) (rs : Nat → Int) (s : c.S) (F : List Nat), i ≤ ss.length ∧ sl = .int .i64 (i : Int) ∧ Hid (Mid c (w.alloc (.cells #[.int .i64 e, .int .i64 b, .int .i64 ch, .int .i64 lg] 23)) wr bk g t ⟨e, b, ch, lg⟩ rs s F)) (fun s _ => ss.length - (intOf s).toNat)
    case atStart => exact ⟨0, g, _, s, F, Nat.zero_le _, rfl, HM⟩
    case round =>
      obtain ⟨i, g, rs, s, F, hi, rfl, HM⟩ := hrel
      by_cases hlt : i < ss.length
      · obtain ⟨x, hx⟩ : ∃ x, ss[i]? = some x := ⟨_, List.getElem?_eq_getElem hlt⟩
        obtain ⟨va', vc', hve, _, hst⟩ := Hs.out
        obtain ⟨A, hA0, hA, hcs, a0, a1, a2, a3, a4⟩ := hst i x hx
        cases hve
        subst hA0
        have hk : ∀ j, (⟨(A.add (i * 5)).block, (A.add (i * 5)).off + j, none⟩ : Addr).block < (w.alloc (.cells #[.int .i64 e, .int .i64 b, .int .i64 ch, .int .i64 lg] 23)).heap.size := fun j => by simpa [addB] using hA
        obtain ⟨xk, xa, xl, xn, xv, xcs⟩ := x
        simp only at hcs a0 a1 a2 a3 a4
        have j0 : (0 : Int) ≤ (i : Int) := by omega
        have j1 : (i : Int) < (ss.length : Int) := by omega
        have hwr : IntKind.i64.wrap ((i : Int) + 1) = (i : Int) + 1 := by rw [IntKind.wrap_i64]; omega
        have Hcs := hide hcs
        have Ha := hide (And.intro a0 (And.intro a1 (And.intro a2 (And.intro a3 a4))))
        clear hst hx hcs a0 a1 a2 a3 a4
        go_wp2_with fail
        refine (use_any c hc wr bk g t _ rs s F HM.out.law).mono ?_
        rintro _ w3 ⟨rfl, hb3⟩
        have M3 := HM.out.later hb3
        have HM3 := hide M3
        have a0 := (M3.below.cell (p := A.add (i * 5)) (by simpa [addB] using hA)).trans Ha.out.1
        have a1 := (M3.below.cell (p := ⟨(A.add (i * 5)).block, (A.add (i * 5)).off + 1, none⟩) (hk 1)).trans Ha.out.2.1
        have a2 := (M3.below.cell (p := ⟨(A.add (i * 5)).block, (A.add (i * 5)).off + 2, none⟩) (hk 2)).trans Ha.out.2.2.1
        have a3 := (M3.below.cell (p := ⟨(A.add (i * 5)).block, (A.add (i * 5)).off + 3, none⟩) (hk 3)).trans Ha.out.2.2.2.1
        have a4 := (M3.below.cell (p := ⟨(A.add (i * 5)).block, (A.add (i * 5)).off + 4, none⟩) (hk 4)).trans Ha.out.2.2.2.2
        have hstp := hide (step_any c hc hap hgo w3 bk g t _ rs s F M3.law xk xa xl xn xv xcs (StepsAt.step (x := ⟨xk, xa, xl, xn, xv, xcs⟩) Hcs.out M3).1 (StepsAt.step (x := ⟨xk, xa, xl, xn, xv, xcs⟩) Hcs.out M3).2)
        obtain ⟨ya, yc, rfl⟩ : ∃ ya yc, xv = .slice ya xcs.length yc := by obtain ⟨p, q, h, _⟩ := Hcs.out; exact ⟨p, q, h⟩
        clear hb3 M3 Ha
        go_wp2_with fail
        refine hstp.out.mono ?_
        rintro _ w4 hpost
        obtain ⟨rfl, g', rs', s', F', M4, hf⟩ := HM3.out.next hpost
        clear hpost a0 a1 a2 a3 a4 hstp
        have hu := hide (use_any c hc w4 bk g' t _ rs' s' F' M4.law)
        have HM4 := hide M4
        clear M4
        go_wp2_with fail
        refine hu.out.mono ?_
        rintro _ w5 ⟨rfl, hb5⟩
        have M5 := HM4.out.later hb5
        have x5 := M5.law.book.x
        have l5 := M5.law.book.lt.1
        have hcl := hide (hc.cells w5 t s' F' M5.law.tab)
        have HM5 := hide M5
        clear M5 hu hb5
        go_wp2_with fail
        refine hcl.out.mono ?_
        rintro _ w6 ⟨rfl, hb6⟩
        have M6 := HM5.out.later hb6
        obtain ⟨q0, q1, q2, q3, q4, q5, q6, q7, q8⟩ := c.nums M6.law.tab
        have hlg : c.log s' = lg := M6.law.lg
        have HM6 := hide M6
        have c3 : w6.cell? ⟨w.heap.size, 3, none⟩ = some (.int .i64 lg) := (M6.below.cell (p := ⟨w.heap.size, 3, none⟩) (by simp)).trans (by simp)
        have hsz6 : w.heap.size < w6.heap.size := by have := M6.below.size; simp at this; omega
        clear M6 hcl hb6 x5 l5
        have next := hide (show ∀ o, ∃ (i' g : Nat) (rs : Nat → Int) (s : c.S) (F : List Nat), i' ≤ ss.length ∧ Value.int .i64 ((i : Int) + 1) = .int .i64 (i' : Int) ∧ Hid (Mid c (w.alloc (.cells #[.int .i64 e, .int .i64 b, .int .i64 ch, .int .i64 lg] 23)) (w6.alloc o) bk g t ⟨e, b, ch, lg⟩ rs s F) from
          fun o => ⟨i + 1, g', rs', s', F', by omega, by simp, HM6.out.later ((Below.refl _ w6).alloc (Nat.le_refl _) o)⟩)
        have p0 : decide (c.act s' < 0) = false := decide_eq_false (by omega)
        have p1 : decide (c.tgt s' < 0) = false := decide_eq_false (by omega)
        have p2 : decide (c.lgd s' < 0) = false := decide_eq_false (by omega)
        have p3 : decide (lg < c.lgd s') = false := decide_eq_false (by omega)
        by_cases hmore : c.use s < c.use s'
        · have p4 : decide (c.bud s' < c.use s') = false := decide_eq_false (by rcases hf with h | h <;> omega)
          go_wp2
          exact ⟨next.out _, by show ss.length - ((i : Int) + 1).toNat < ss.length - (i : Int).toNat; omega⟩
        · have p4 : decide (c.use s < c.use s') = false := decide_eq_false hmore
          go_wp2
          exact ⟨next.out _, by show ss.length - ((i : Int) + 1).toNat < ss.length - (i : Int).toNat; omega⟩
      · obtain rfl : i = ss.length := by omega
        have fin := hide (HB1.out.trans (HM.out.below.mono HB1.out.size))
        go_wp2
        go_ret
        exact ⟨rfl, fin.out⟩
  · have hcall := hide (opened_no c hn cf (w.alloc (.cells #[.int .i64 cf.e, .int .i64 cf.b, .int .i64 cf.c, .int .i64 cf.l] 23)) hcf)
    obtain ⟨va, vc, rfl, _, _⟩ := hs
    obtain ⟨e, b, ch, lg⟩ := cf
    clear hB1
    go_enter Try.func3, Try.ntmps3
    go_wp2_with fail
    refine hcall.out.mono ?_
    rintro _ w2 ⟨rfl, hb2⟩
    have fin := hide (HB1.out.trans (hb2.mono HB1.out.size))
    clear hcall hb2
    go_wp2
    go_ret
    exact ⟨rfl, fin.out⟩

end Go.Proofs.Ytkihifodifkieaa

import Derived.Test.YtkihifodifkieaaLbk
namespace Go.Proofs.Ytkihifodifkieaa
open Go.RowKit Go.Shelf

attribute [local go_sem] Oper.semAt_some

abbrev stepV (k a l n : Int) (v : Value) : Value := .agg #[.int .i64 k, .int .i64 a, .int .i64 l, .int .i64 n, v]

-- behind a call on the table that the book has boxed its step for
theorem Law.after {c : TabC} {w w1 w2 : World} {bk g t : Nat} {cf : Cfg} {rs : Nat → Int} {s s' : c.S} {F F' : List Nat} (hL : Law c w bk g t cf rs s F) (hB : Below w.heap.size w w1) (hT : c.T w2 t s' F') (hN : NewF w1 F F') (hO : Only F w1 w2) (hl : c.log s' = c.log s) (hx : c.xs s' = c.xs s) :
    Law c w2 bk g t cf rs s' F' ∧ Only F w w2 ∧ NewF w F F' := by
  have lt := hL.book.lt
  have hs := hB.size
  refine ⟨⟨hL.book.kept ?_ ?_, hT, fun h => ?_, fun h => ?_, by rw [hx]; exact hL.tie, hl.trans hL.lg⟩, (Only.of_below _ hB).trans hO (fun x hx => .inl hx), fun k hk => (hN k hk).imp id fun h => by omega⟩
  · exact (hO.block bk (by omega) hL.n1).trans (hB.block bk lt.1)
  · exact (hO.block g (by omega) hL.n2).trans (hB.block g lt.2)
  · rcases hN _ h with h1 | h1
    · exact hL.n1 h1
    · omega
  · rcases hN _ h with h1 | h1
    · exact hL.n2 h1
    · omega

theorem Law.post {c : TabC} {w w2 : World} {bk g t : Nat} {cf : Cfg} {rs : Nat → Int} {s s' : c.S} {F F' : List Nat} (q1 : Law c w2 bk g t cf rs s' F') (hf : c.fits s s') (q2 : Only (bk :: g :: F) w w2) (q3 : NewF w F F') : LawPost c bk g t cf s F w (.returned (.bool true)) w2 :=
  ⟨rfl, g, rs, s', F', q1, hf, q2, fun k hk => by
      simp at hk ⊢; rcases hk with rfl | rfl | hk
      · exact .inl (.inl rfl)
      · exact .inl (.inr (.inl rfl))
      · exact (q3 k hk).imp (fun h => .inr (.inr h)) id⟩
theorem Only.wide {F : List Nat} {a b : World} (h : Only F a b) (x y : Nat) : Only (x :: y :: F) a b := h.mono (by simp; intro k hk _; exact .inr (.inr hk))
theorem Law.putR {c : TabC} {w w2 : World} {bk g t : Nat} {cf : Cfg} {rs : Nat → Int} {s s' : c.S} {F F' : List Nat} (hL : Law c w bk g t cf rs s F) (q2 : Only F w w2) (hT : c.T w2 t s' F') (q3 : NewF w F F') (hlg : c.log s' = c.log s) (hf : c.fits s s') {a l n : Int} (hp : isPfx a l = true) (hx : c.xs s' = setE (c.xs s) a l n) :
    LawPost c bk g t cf s F w (.returned (.bool true)) (w2.setCell ⟨g, (9 * a + l).toNat, none⟩ (.int .i64 n)) := by
  have lt := hL.book.lt
  have n1 : bk ∉ F' := fun h => by
    rcases q3 _ h with h1 | h1
    · exact hL.n1 h1
    · omega
  have n2 : g ∉ F' := fun h => by
    rcases q3 _ h with h1 | h1
    · exact hL.n2 h1
    · omega
  have hb2 := hL.book.kept (q2.block bk lt.1 hL.n1) (q2.block g lt.2 hL.n2)
  refine Law.post ⟨hb2.put _ n, c.kept hT fun k hk => Below.heap_setCell _ _ _ _ (fun e => n2 (by rw [show g = k from e.symm]; exact hk)), n1, n2, by rw [hx]; exact hL.tie.put (c.sorted hL.tab) hp, hlg.trans hL.lg⟩ hf ?_ q3
  exact ⟨q2.os, q2.tape, q2.output, by simpa [World.setCell] using q2.size, fun k hk hn => by
    simp at hn
    exact (Below.heap_setCell _ _ _ _ hn.2.1).trans (q2.block k hk hn.2.2)⟩

set_option maxHeartbeats 1000000 in
theorem adds_any (c : TabC) (hc : c.Works) (w : World) (bk g t : Nat) (cf : Cfg) (rs : Nat → Int) (s : c.S) (F : List Nat) (hL : Law c w bk g t cf rs s F) (k a l n : Int) (v : Value) :
    Calls Try.prog 9 #[ptrV bk, stepV k a l n v] w (LawPost c bk g t cf s F w) := by
  have hx := hL.book.x
  have hl := hL.book.lt.1
  have hFl := c.lt hL.tab
  have nb : bk ∉ F := hL.n1
  have no : w.heap.size ∉ F := fun h => by have := hFl _ h; omega
  have hB1 : Below w.heap.size w (w.alloc (.cells #[.int .i64 k, .int .i64 a, .int .i64 l, .int .i64 n, v] 32)).drew := ((Below.refl _ w).alloc (Nat.le_refl _) _).drew
  have hT1 : c.T (w.alloc (.cells #[.int .i64 k, .int .i64 a, .int .i64 l, .int .i64 n, v] 32)).drew t s F := c.kept hL.tab fun k hk => hB1.block k (hFl k hk)
  have hadd := hide (hc.add _ t s F a l n hT1)
  have Hlaw := hide hL
  have HB1 := hide hB1
  go_enter Try.func9, Try.ntmps9
  go_wp2
  go_region_held3 (fun w' => w'.cell? ⟨bk, 4, none⟩ = some (ptrV t) ∧ w'.cell? ⟨w.heap.size, 1, none⟩ = some (.int .i64 a) ∧ w'.cell? ⟨w.heap.size, 2, none⟩ = some (.int .i64 l) ∧ w'.cell? ⟨w.heap.size, 3, none⟩ = some (.int .i64 n)) (go_keep)
    (first
      | (go_at_call 18; refine hadd.out.mono ?_; rintro _ w2 ⟨_, s', F', rfl, ⟨e, rfl, hR⟩, hT, hN, hO, hlg⟩; (have k0 : ∀ o, w2.cell? ⟨bk, o, none⟩ = w.cell? ⟨bk, o, none⟩ := fun o => (hO.cell (by simp; omega) nb).trans (HB1.out.cell (p := ⟨bk, o, none⟩) hl)); (have k1 := fun o => hO.cell (o := o) (b := w.heap.size) (by simp) no)))
  clear hadd k0 k1
  rcases hR with ⟨hp, rfl, rfl⟩ | ⟨hp, hn, rfl, rfl⟩ | ⟨hp, h1, h2, hg, rfl, rfl⟩ | ⟨hp, h1, h2, hx2, hb, hf, rfl⟩
  · obtain ⟨q1, q2, q3⟩ := Hlaw.out.after HB1.out hT hN hO hlg rfl
    have fin := hide (q1.post (.inl (Int.le_refl _)) (q2.wide bk g) q3)
    clear hT hN hO q1 q2 q3 hT1 hB1 hL
    go_wp2_with (go_at_call 19; refine (proper_no a l hp _).mono ?_; rintro e w' ⟨rfl, rfl⟩)
    go_ret
    exact fin.out
  · obtain ⟨q1, q2, q3⟩ := Hlaw.out.after HB1.out hT hN hO hlg rfl
    have fin := hide (q1.post (.inl (Int.le_refl _)) (q2.wide bk g) q3)
    clear hT hN hO q1 q2 q3 hT1 hB1 hL
    by_cases h1 : n < 1
    · clear hn
      go_wp2_with (go_at_call 19; refine (proper_yes a l hp _).mono ?_; rintro e w' ⟨rfl, rfl⟩)
      go_ret
      exact fin.out
    · have h2 : 255 < n := by omega
      have h3 : decide (n < 1) = false := by simpa using h1
      clear hn
      go_wp2_with (go_at_call 19; refine (proper_yes a l hp _).mono ?_; rintro e w' ⟨rfl, rfl⟩)
      go_ret
      exact fin.out
  · obtain ⟨q1, q2, q3⟩ := Hlaw.out.after HB1.out hT hN hO hlg rfl
    have fin := hide (q1.post (.inl (Int.le_refl _)) (q2.wide bk g) q3)
    have hz := q1.tie a l hp
    rw [hg] at hz
    obtain ⟨p0, p1, p2, p3, _⟩ := (isPfx_iff a l).1 hp
    obtain ⟨m, hm⟩ : ∃ m : Nat, 9 * a + l = (m : Int) := ⟨(9 * a + l).toNat, by omega⟩
    have m1 : (m : Int) < 2304 := by omega
    have m0 : (0 : Int) ≤ (m : Int) := by omega
    have r5 := q1.book.r
    have rm := q1.book.cell (k := m) (by omega)
    rw [show m = (9 * a + l).toNat by omega, hz, show (9 * a + l).toNat = m by omega, show orZ none = 0 from rfl] at rm
    have h3 : decide (n < 1) = false := by simp; omega
    have h4 : decide (255 < n) = false := by simp; omega
    clear hT hN hO q1 q2 q3 hT1 hB1 hL hz p0 p1 p2 p3
    go_wp2_with (first
      | (go_at_call 19; refine (proper_yes a l hp _).mono ?_; rintro e w' ⟨rfl, rfl⟩)
      | (go_at_call 20; refine (rank_any a l hp _).mono ?_; rw [hm]; rintro e w' ⟨rfl, rfl⟩))
    go_ret
    exact fin.out
  · have q2 : Only F w w2 := (Only.of_below _ HB1.out).trans hO (fun x hx => .inl hx)
    have q3 : NewF w F F' := fun k hk => (hN k hk).imp id fun h => by have := HB1.out.size; omega
    have fin := hide (Hlaw.out.putR (q2.trans (Only.of_below [] (Below.refl _ w2).drew) (by simp)) (c.kept hT fun _ _ => rfl) q3 hlg hf hp hx2)
    have lt := Hlaw.out.book.lt
    have hbk := Hlaw.out.book.kept (q2.block bk lt.1 Hlaw.out.n1) (q2.block g lt.2 Hlaw.out.n2)
    obtain ⟨p0, p1, p2, p3, _⟩ := (isPfx_iff a l).1 hp
    obtain ⟨m, hm⟩ : ∃ m : Nat, 9 * a + l = (m : Int) := ⟨(9 * a + l).toNat, by omega⟩
    have m1 : (m : Int) < 2304 := by omega
    have m0 : (0 : Int) ≤ (m : Int) := by omega
    rw [show (9 * a + l).toNat = m by omega] at fin
    have r5 := hbk.r
    have rm := hbk.cell (k := m) (by omega)
    have rf := hbk.fz m
    have hne : bk ≠ g := hbk.ne
    have hne0 : g ≠ bk := hne.symm
    have hne3 : g ≠ w.heap.size := by omega
    have hne2 : w.heap.size ≠ g := by omega
    have hgo : g < w.heap.size := lt.2
    have h3 : decide (n < 1) = false := by simp; omega
    have h4 : decide (255 < n) = false := by simp; omega
    clear hT hN hO q2 q3 hT1 hB1 hL p0 p1 p2 p3 hbk lt
    go_wp2_with (first
      | (go_at_call 19; refine (proper_yes a l hp _).mono ?_; rintro e w' ⟨rfl, rfl⟩)
      | (go_at_call 20; refine (rank_any a l hp _).mono ?_; rw [hm]; rintro e w' ⟨rfl, rfl⟩))
    go_region_held3 (fun w' => w'.cell? ⟨bk, 5, none⟩ = some (.slice (some ⟨g, 0, none⟩) 2304 2304) ∧ w'.cell? ⟨w.heap.size, 3, none⟩ = some (.int .i64 n)) (go_keep) (fail)
    go_wp2
    go_ret
    exact fin.out

end Go.Proofs.Ytkihifodifkieaa

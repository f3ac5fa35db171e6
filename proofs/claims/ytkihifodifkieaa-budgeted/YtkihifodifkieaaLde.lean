import Derived.Test.YtkihifodifkieaaLad
namespace Go.Proofs.Ytkihifodifkieaa
open Go.RowKit Go.Shelf

attribute [local go_sem] Oper.semAt_some

theorem orZ_ok {xs : List Ent} {a l : Int} (h : ∀ x ∈ xs, okE x) (hs : (getE xs a l).isSome = true) : (orZ (getE xs a l) == 0) = false := by
  induction xs with
  | nil => simp [getE] at hs
  | cons x xs ih =>
    rw [getE] at hs ⊢
    split
    · have := (h x (by simp)).2
      simp [orZ]
      omega
    · rename_i hne
      rw [if_neg hne] at hs
      exact ih (fun y hy => h y (by simp [hy])) hs

set_option maxHeartbeats 1000000 in
theorem deletes_any (c : TabC) (hc : c.Works) (w : World) (bk g t : Nat) (cf : Cfg) (rs : Nat → Int) (s : c.S) (F : List Nat) (hL : Law c w bk g t cf rs s F) (k a l n : Int) (v : Value) :
    Calls Try.prog 10 #[ptrV bk, stepV k a l n v] w (LawPost c bk g t cf s F w) := by
  have hx := hL.book.x
  have hl := hL.book.lt.1
  have hFl := c.lt hL.tab
  have nb : bk ∉ F := hL.n1
  have no : w.heap.size ∉ F := fun h => by have := hFl _ h; omega
  have hB1 : Below w.heap.size w (w.alloc (.cells #[.int .i64 k, .int .i64 a, .int .i64 l, .int .i64 n, v] 32)).drew := ((Below.refl _ w).alloc (Nat.le_refl _) _).drew
  have hT1 : c.T (w.alloc (.cells #[.int .i64 k, .int .i64 a, .int .i64 l, .int .i64 n, v] 32)).drew t s F := c.kept hL.tab fun k hk => hB1.block k (hFl k hk)
  have hadd := hide (hc.del _ t s F a l hT1)
  have Hlaw := hide hL
  have HB1 := hide hB1
  go_enter Try.func10, Try.ntmps10
  go_wp2
  go_region_held3 (fun w' => w'.cell? ⟨bk, 4, none⟩ = some (ptrV t) ∧ w'.cell? ⟨w.heap.size, 1, none⟩ = some (.int .i64 a) ∧ w'.cell? ⟨w.heap.size, 2, none⟩ = some (.int .i64 l)) (go_keep)
    (first
      | (go_at_call 21; refine hadd.out.mono ?_; rintro _ w2 ⟨_, s', F', rfl, ⟨e, rfl, hR⟩, hT, hN, hO, hlg⟩; (have k0 : ∀ o, w2.cell? ⟨bk, o, none⟩ = w.cell? ⟨bk, o, none⟩ := fun o => (hO.cell (by simp; omega) nb).trans (HB1.out.cell (p := ⟨bk, o, none⟩) hl)); (have k1 := fun o => hO.cell (o := o) (b := w.heap.size) (by simp) no)))
  clear hadd k0 k1
  rcases hR with ⟨hp, rfl, rfl⟩ | ⟨hp, hg, rfl, rfl⟩ | ⟨hp, hsm, hx2, hb, hf, rfl⟩
  · obtain ⟨q1, q2, q3⟩ := Hlaw.out.after HB1.out hT hN hO hlg rfl
    have fin := hide (q1.post (.inl (Int.le_refl _)) (q2.wide bk g) q3)
    clear hT hN hO q1 q2 q3 hT1 hB1 hL
    go_wp2_with (go_at_call 19; refine (proper_no a l hp _).mono ?_; rintro e w' ⟨rfl, rfl⟩)
    go_ret
    exact fin.out
  · obtain ⟨q1, q2, q3⟩ := Hlaw.out.after HB1.out hT hN hO hlg rfl
    have fin := hide (q1.post (.inl (Int.le_refl _)) (q2.wide bk g) q3)
    have hz := q1.tie a l hp
    rw [hg] at hz
    obtain ⟨p0, p1, p2, p3, _⟩ := (isPfx_iff a l).1 hp
    obtain ⟨m, hm⟩ : ∃ m : Nat, 9 * a + l = (m : Int) := ⟨(9 * a + l).toNat, by omega⟩
    have m1 : (m : Int) < 2304 := by omega
    have m0 : (0 : Int) ≤ (m : Int) := by omega
    have r5 := q1.book.r
    have rm := q1.book.cell (k := m) (by omega)
    rw [show m = (9 * a + l).toNat by omega, hz, show (9 * a + l).toNat = m by omega, show orZ none = 0 from rfl] at rm
    clear hT hN hO q1 q2 q3 hT1 hB1 hL hz p0 p1 p2 p3
    go_wp2_with (first
      | (go_at_call 19; refine (proper_yes a l hp _).mono ?_; rintro e w' ⟨rfl, rfl⟩)
      | (go_at_call 20; refine (rank_any a l hp _).mono ?_; rw [hm]; rintro e w' ⟨rfl, rfl⟩))
    go_ret
    exact fin.out
  · have q2 : Only F w w2 := (Only.of_below _ HB1.out).trans hO (fun x hx => .inl hx)
    have q3 : NewF w F F' := fun k hk => (hN k hk).imp id fun h => by have := HB1.out.size; omega
    have fin := hide (Hlaw.out.putR q2 hT q3 hlg hf hp hx2)
    have lt := Hlaw.out.book.lt
    have hbk := Hlaw.out.book.kept (q2.block bk lt.1 Hlaw.out.n1) (q2.block g lt.2 Hlaw.out.n2)
    obtain ⟨p0, p1, p2, p3, _⟩ := (isPfx_iff a l).1 hp
    obtain ⟨m, hm⟩ : ∃ m : Nat, 9 * a + l = (m : Int) := ⟨(9 * a + l).toNat, by omega⟩
    have m1 : (m : Int) < 2304 := by omega
    have m0 : (0 : Int) ≤ (m : Int) := by omega
    rw [show (9 * a + l).toNat = m by omega] at fin
    have r5 := hbk.r
    have rm := hbk.cell (k := m) (by omega)
    have hz : (rs m == 0) = false := by
      have h1 := Hlaw.out.tie a l hp
      rw [show (9 * a + l).toNat = m by omega] at h1
      rw [h1]
      exact orZ_ok (c.ok Hlaw.out.tab) hsm
    have rf := hbk.fz m
    generalize rs m = z at rm hz
    clear hT hN hO q2 q3 hT1 hB1 hL p0 p1 p2 p3 hbk lt
    go_wp2_with (first
      | (go_at_call 19; refine (proper_yes a l hp _).mono ?_; rintro e w' ⟨rfl, rfl⟩)
      | (go_at_call 20; refine (rank_any a l hp _).mono ?_; rw [hm]; rintro e w' ⟨rfl, rfl⟩))
    go_ret
    exact fin.out

end Go.Proofs.Ytkihifodifkieaa

import Derived.Test.YtkihifodifkieaaLtr
namespace Go.Proofs.Ytkihifodifkieaa
open Go.RowKit Go.Shelf

attribute [local go_sem] Oper.semAt_some

def tryX : List Chg → List Ent → Nat → List Ent × Nat × Int
  | [], xs, i => (xs, i, 0)
  | x :: cs, xs, i => if isPfx x.a x.l = false then (xs, i, 2) else if x.n < 0 ∨ 255 < x.n then (xs, i, 3) else if x.n = 0 ∧ getE xs x.a x.l = none then (xs, i, 5) else tryX cs (setE xs x.a x.l x.n) (i + 1)

theorem setE_sorted {xs : List Ent} {a l n : Int} (hs : Sorted xs) : Sorted (setE xs a l n) := by
  unfold setE
  split
  · exact delE_sorted hs
  · exact putE_sorted hs
theorem orZ_none {xs : List Ent} {a l : Int} (h : ∀ x ∈ xs, okE x) : orZ (getE xs a l) = 0 ↔ getE xs a l = none := by
  constructor
  · intro h0
    cases hg : getE xs a l with
    | none => rfl
    | some n =>
      have := orZ_ok (a := a) (l := l) h (by rw [hg]; rfl)
      rw [h0] at this
      cases this
  · intro h0; rw [h0]; rfl
theorem setE_ok {xs : List Ent} {a l n : Int} (h : ∀ x ∈ xs, okE x) (hp : isPfx a l = true) (hn : n = 0 ∨ (1 ≤ n ∧ n ≤ 255)) : ∀ x ∈ setE xs a l n, okE x := by
  intro x hx
  unfold setE at hx
  split at hx
  · exact h x (delE_mem hx)
  · rcases putE_mem hx with rfl | hx
    · exact ⟨hp, by rcases hn with h0 | h0; exact absurd h0 (by assumption); exact h0⟩
    · exact h x hx

theorem try_tie : ∀ (cs : List Chg) (rs : Nat → Int) (xs : List Ent) (i : Nat), Tie rs xs → Sorted xs → (∀ x ∈ xs, okE x) → (tryC cs rs i).2 = (tryX cs xs i).2 ∧ Tie (tryC cs rs i).1 (tryX cs xs i).1 ∧ ((tryX cs xs i).2.2 = 0 → (tryX cs xs i).2.1 = i + cs.length)
  | [], rs, xs, i, h, _, _ => ⟨rfl, h, fun _ => rfl⟩
  | x :: cs, rs, xs, i, h, hs, ho => by
    rw [tryC, tryX]
    by_cases h1 : isPfx x.a x.l = false
    · rw [if_pos h1, if_pos h1]; exact ⟨rfl, h, fun h => by simp at h⟩
    rw [if_neg h1, if_neg h1]
    by_cases h2 : x.n < 0 ∨ 255 < x.n
    · rw [if_pos h2, if_pos h2]; exact ⟨rfl, h, fun h => by simp at h⟩
    rw [if_neg h2, if_neg h2]
    have hp : isPfx x.a x.l = true := by simpa using h1
    have ht := h x.a x.l hp
    by_cases h3 : x.n = 0 ∧ getE xs x.a x.l = none
    · rw [if_pos (by rw [ht, orZ_none ho]; exact h3), if_pos h3]; exact ⟨rfl, h, fun h => by simp at h⟩
    rw [if_neg (by rw [ht, orZ_none ho]; exact h3), if_neg h3]
    obtain ⟨r1, r2, r3⟩ := try_tie cs (upd rs (9 * x.a + x.l).toNat x.n) (setE xs x.a x.l x.n) (i + 1) (h.put hs hp) (setE_sorted hs) (setE_ok ho hp (by omega))
    exact ⟨r1, r2, fun h => by rw [r3 h, List.length_cons]; omega⟩

def appR (c : TabC) (cs : List Chg) (s : c.S) (n e : Int) (s' : c.S) : Prop :=
  (16 < cs.length ∧ n = 0 ∧ e = 12 ∧ s = s') ∨ (cs.length ≤ 16 ∧ (tryX cs (c.xs s) 0).2.2 ≠ 0 ∧ n = ((tryX cs (c.xs s) 0).2.1 : Nat) ∧ e = (tryX cs (c.xs s) 0).2.2 ∧ s = s') ∨
  (cs.length ≤ 16 ∧ (tryX cs (c.xs s) 0).2.2 = 0 ∧ n = (cs.length : Nat) ∧ e = 6 ∧ s = s') ∨
  (cs.length ≤ 16 ∧ (tryX cs (c.xs s) 0).2.2 = 0 ∧ c.xs s' = (tryX cs (c.xs s) 0).1 ∧ c.bud s' = c.bud s ∧ c.fits s s' ∧ n = (cs.length : Nat) ∧ e = 0)
def Apart (v : Value) (F : List Nat) : Prop := ∀ A n cap, v = .slice (some A) n cap → 0 < n → A.block ∉ F
def TabC.Apps (c : TabC) : Prop := ∀ w t s F v cs, c.T w t s F → ChgsAt w v cs → Apart v F → c.turns 23 #[v] w t s F fun r s' => ∃ n e, r = .tuple #[.int .i64 n, .int .i64 e] ∧ appR c cs s n e s'

theorem ChgsAt.later {w w' : World} {v : Value} {cs : List Chg} (h : ChgsAt w v cs) (hB : Below w.heap.size w w') : ChgsAt w' v cs := by
  obtain ⟨a, cap, h1, h2, h3⟩ := h
  refine ⟨a, cap, h1, h2, fun i x hx => ?_⟩
  obtain ⟨A, h4, h5, h6, h7, h8⟩ := h3 i x hx
  exact ⟨A, h4, by have := hB.size; omega, (hB.cell (p := A.add (i * 3)) (by simpa [addB] using h5)).trans h6,
    (hB.cell (p := ⟨(A.add (i * 3)).block, (A.add (i * 3)).off + 1, none⟩) (by simpa [addB] using h5)).trans h7, (hB.cell (p := ⟨(A.add (i * 3)).block, (A.add (i * 3)).off + 2, none⟩) (by simpa [addB] using h5)).trans h8⟩

theorem BookF.turn {w : World} {bk g g' t : Nat} {cf : Cfg} {rs rs' : Nat → Int} (h : BookF w bk g t cf rs) (hR : RowR w g' rs') (hne : bk ≠ g') : BookF (w.setCell ⟨bk, 5, none⟩ (.slice (some ⟨g', 0, none⟩) 2304 2304)) bk g' t cf rs' := by
  refine ⟨?_, hR.kept (Below.heap_setCell _ _ _ _ (Ne.symm hne)), hne⟩
  rw [setCell_eq_setRow w bk 5 _ _ _ _ h.blk, setRow_heap w _ _ _ _ _ h.blk]
  rfl

set_option maxHeartbeats 1000000 in
theorem applies_any (c : TabC) (hap : c.Apps) (w : World) (bk g t : Nat) (cf : Cfg) (rs : Nat → Int) (s : c.S) (F : List Nat) (hL : Law c w bk g t cf rs s F) (k a l n : Int) (v : Value) (cs : List Chg) (hv : ChgsAt w v cs) (hva : Apart v F) :
    Calls Try.prog 11 #[ptrV bk, stepV k a l n v] w (LawPost c bk g t cf s F w) := by
  have hx := hL.book.x
  have hl := hL.book.lt.1
  have hFl := c.lt hL.tab
  have nb : bk ∉ F := hL.n1
  have no : w.heap.size ∉ F := fun h => by have := hFl _ h; omega
  obtain ⟨w1, hw1⟩ : ∃ w1, w1 = w.alloc (.cells #[.int .i64 k, .int .i64 a, .int .i64 l, .int .i64 n, v] 32) := ⟨_, rfl⟩
  have hB1 : Below w.heap.size w w1 := by rw [hw1]; exact (Below.refl _ w).alloc (Nat.le_refl _) _
  have hs1 : w1.heap.size = w.heap.size + 1 := by rw [hw1]; simp
  have b4 : w1.cell? ⟨w.heap.size, 4, none⟩ = some v := by rw [hw1]; simp
  have hbk1 : BookF w1 bk g t cf rs := hL.book.kept (hB1.block _ hl) (hB1.block _ hL.book.lt.2)
  obtain ⟨⟨rs2, i0, e0⟩, hp⟩ : ∃ p, tryC cs rs 0 = p := ⟨_, rfl⟩
  obtain ⟨t1, t2, t3⟩ := try_tie cs rs (c.xs s) 0 hL.tie (c.sorted hL.tab) (c.ok hL.tab)
  have htr := hide (tried_any w1 bk g t cf rs hbk1 v cs (hv.later hB1))
  have Hv := hide hv
  obtain ⟨va, vc, hve, hvl, _⟩ := hv
  have Hlaw := hide hL
  have HB1 := hide hB1
  have Hva := hide hva
  rw [hp] at t1 t2
  have Ht1 := hide t1
  have Ht2 := hide t2
  have Ht3 := hide t3
  have Hs1 := hide hs1
  have Hbk1 := hide hbk1
  have Hp := hide hp
  clear t1 t2 t3 hbk1 hp hva hs1
  unfold maxLen at hvl
  subst hw1
  subst hve
  go_enter Try.func11, Try.ntmps11
  go_wp2_with fail
  refine htr.out.mono ?_
  rintro _ w2 ⟨hb2, m, rfl, hm2⟩
  rw [Hp.out] at hm2 ⊢
  simp only at hm2 ⊢
  have hbw := HB1.out.trans (hb2.mono HB1.out.size)
  have hT2 : c.T w2.drew t s F := c.kept Hlaw.out.tab fun k hk => hbw.block k (hFl k hk)
  have happ := hide (hap w2.drew t s F _ cs hT2 ((Hv.out.later hbw).later (Below.refl _ w2).drew) Hva.out)
  have x4 : w2.cell? ⟨bk, 4, none⟩ = some (ptrV t) := (hbw.cell (p := ⟨bk, 4, none⟩) hl).trans hx
  have x5 : w2.cell? ⟨w.heap.size, 4, none⟩ = some (.slice va cs.length vc) := (hb2.cell (p := ⟨w.heap.size, 4, none⟩) (by simp)).trans b4
  have hlb : bk < w2.heap.size := by have := hbw.size; omega
  have hlo : w.heap.size < w2.heap.size := by have := hb2.size; have := Hs1.out; omega
  have Hbw := hide hbw
  have Hm2 := hide hm2
  clear hm2 hT2 htr hbw b4
  go_wp2
  go_region_held3 (fun w' => w'.cell? ⟨bk, 4, none⟩ = some (ptrV t) ∧ w'.cell? ⟨w.heap.size, 4, none⟩ = some (.slice va cs.length vc)) (go_keep)
    (first
      | (go_at_call 23; refine happ.out.mono ?_; rintro _ w3 ⟨_, s', F', rfl, ⟨n3, e3, rfl, hR⟩, hT, hN, hO, hlg⟩; (have k0 : ∀ o, w3.cell? ⟨bk, o, none⟩ = w2.cell? ⟨bk, o, none⟩ := fun o => hO.cell (by simpa using hlb) nb); (have k1 := fun o => hO.cell (o := o) (b := w.heap.size) (by simpa using hlo) no)))
  clear happ k0 k1
  have hBd : Below w.heap.size w w2.drew := Hbw.out.drew
  rcases hR with ⟨h16, rfl, rfl, rfl⟩ | ⟨h16, hne, rfl, rfl, rfl⟩ | ⟨h16, he, rfl, rfl, rfl⟩ | ⟨h16, he, hx2, hb, hf, rfl, rfl⟩
  · obtain ⟨q1, q2, q3⟩ := Hlaw.out.after hBd hT hN hO hlg rfl
    have fin := hide (q1.post (.inl (Int.le_refl _)) (q2.wide bk g) q3)
    have h16' : (16 : Int) < (cs.length : Int) := by omega
    clear hT hN hO q1 q2 q3 hL hb2 hBd
    go_wp2
    go_ret
    exact fin.out
  · obtain ⟨q1, q2, q3⟩ := Hlaw.out.after hBd hT hN hO hlg rfl
    have fin := hide (q1.post (.inl (Int.le_refl _)) (q2.wide bk g) q3)
    have h16' : ¬ (16 : Int) < (cs.length : Int) := by omega
    have e1 : (tryX cs (c.xs s) 0).2.1 = i0 := by rw [← Ht1.out]
    have e2 : (tryX cs (c.xs s) 0).2.2 = e0 := by rw [← Ht1.out]
    have hne2 : (e0 == 0) = false := by rw [← e2]; simpa using hne
    rw [e1, e2]
    clear hT hN hO q1 q2 q3 hL hb2 hBd e1 e2 hne
    go_wp2
    go_ret
    exact fin.out
  · obtain ⟨q1, q2, q3⟩ := Hlaw.out.after hBd hT hN hO hlg rfl
    have fin := hide (q1.post (.inl (Int.le_refl _)) (q2.wide bk g) q3)
    have h16' : ¬ (16 : Int) < (cs.length : Int) := by omega
    have e1 : (tryX cs (c.xs s) 0).2.1 = i0 := by rw [← Ht1.out]
    have e2 : (tryX cs (c.xs s) 0).2.2 = e0 := by rw [← Ht1.out]
    obtain rfl : e0 = 0 := by rw [← e2, he]
    obtain rfl : i0 = cs.length := by rw [← e1, Ht3.out he]; omega
    clear hT hN hO q1 q2 q3 hL hb2 hBd e1 e2 he
    go_wp2
    go_ret
    exact fin.out
  · obtain ⟨q2, q3⟩ : Only F w w3 ∧ NewF w F F' := ⟨(Only.of_below _ hBd).trans hO (fun x hx => .inl hx), fun k hk => (hN k hk).imp id fun h => by have := hBd.size; omega⟩
    have h16' : ¬ (16 : Int) < (cs.length : Int) := by omega
    have e1 : (tryX cs (c.xs s) 0).2.1 = i0 := by rw [← Ht1.out]
    have e2 : (tryX cs (c.xs s) 0).2.2 = e0 := by rw [← Ht1.out]
    obtain rfl : e0 = 0 := by rw [← e2, he]
    obtain rfl : i0 = cs.length := by rw [← e1, Ht3.out he]; omega
    obtain ⟨hme, hrow⟩ := Hm2.out rfl
    rw [Hs1.out] at hme hrow
    subst hme
    have lt := Hlaw.out.book.lt
    have hbk3 := Hlaw.out.book.kept (q2.block bk lt.1 Hlaw.out.n1) (q2.block g lt.2 Hlaw.out.n2)
    have ngF : w.heap.size + 1 ∉ F := fun h => by have := hFl _ h; omega
    have hr3 : RowR w3 (w.heap.size + 1) rs2 := hrow.kept (hO.block _ (by simpa using hrow.lt) ngF)
    have n1 : bk ∉ F' := fun h => by
      rcases q3 _ h with h1 | h1
      · exact nb h1
      · omega
    have n2 : w.heap.size + 1 ∉ F' := fun h => by
      rcases hN _ h with h1 | h1
      · exact ngF h1
      · have := hrow.lt; simp at h1; omega
    have fin := hide (show LawPost c bk g t cf s F w (.returned (.bool true)) (w3.setCell ⟨bk, 5, none⟩ (.slice (some ⟨w.heap.size + 1, 0, none⟩) 2304 2304)) from
      ⟨rfl, w.heap.size + 1, rs2, s', F', ⟨hbk3.turn hr3 (by omega), c.kept hT fun k hk => Below.heap_setCell _ _ _ _ (fun e => n1 (by rw [show bk = k from e.symm]; exact hk)), n1, n2, by rw [hx2]; exact Ht2.out, hlg.trans Hlaw.out.lg⟩, hf,
        ⟨q2.os, q2.tape, q2.output, by simpa [World.setCell] using q2.size, fun k hk hn => by
          simp at hn
          exact (Below.heap_setCell _ _ _ _ hn.1).trans (q2.block k hk hn.2.2)⟩, fun k hk => by
          simp at hk ⊢
          rcases hk with rfl | rfl | hk
          · exact .inl (.inl rfl)
          · exact .inr (by omega)
          · exact (q3 k hk).imp (fun h => .inr (.inr h)) id⟩)
    have z5 := hbk3.r
    have zf : w3.frozen? ⟨bk, 5, none⟩ = false := by simp [World.frozen?, hbk3.blk]
    obtain ⟨N, hN5⟩ : ∃ N : Nat, 2304 = N := ⟨_, rfl⟩
    rw [hN5] at z5 fin
    clear hT hN hO q2 q3 hL hb2 hBd e1 e2 he hbk3 hr3 lt n1 n2 ngF hrow Hm2
    rw [hN5]
    clear hN5
    go_wp2
    go_ret
    exact fin.out

end Go.Proofs.Ytkihifodifkieaa

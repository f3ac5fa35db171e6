import Derived.Test.YtkihifodifkieaaFnd
namespace Go.Proofs.Ytkihifodifkieaa.R
open Go.RowKit

abbrev rentV (k a l n : Int) : Value := .agg #[.int .i64 k, .int .i64 a, .int .i64 l, .int .i64 n]
abbrev cmpIV : Value := .func (.func 38) #[] #[]

set_option maxHeartbeats 400000 in
theorem find1_any (k a l n b : Int) (bx st : Nat) (w : World) (hbx : w.cell? ⟨bx, 0, none⟩ = some (ptrV st)) (hst : w.cell? ⟨st, 0, none⟩ = some cmpIV) :
    Calls Try.prog 63 #[rentV k a l n, .int .i64 b, ptrV bx] w fun e w' => e = .returned (.int .i64 (cmpI k b)) ∧ Below w.heap.size w w' := by
  have h1 := World.block_lt_of_cell? w _ hbx
  have h2 := World.block_lt_of_cell? w _ hst
  simp only at h1 h2
  have h1' : bx < w.heap.size + 1 := by omega
  have h2' : st < w.heap.size + 1 := by omega
  go_enter Try.func63, Try.ntmps63
  go_wp2
  go_quiet ((go_at_call 38; exact Calls.quiet_of_same (cmpInt_any k b _)))
  go_wp2
  go_ret
  exact ⟨rfl, (by repeat (first | exact Below.refl _ _ | refine below_drewN ?_ _ | refine Below.drew ?_ | refine Below.trans ?_ (Below.mono (by assumption) (by first | omega | (simp; omega) | simp)) | refine Below.alloc ?_ (by first | omega | (simp; omega) | simp) _ | refine Below.setCell ?_ (by first | omega | (simp; omega) | simp) _))⟩

structure Ent where
  k : Int
  a : Int
  l : Int
  n : Int
def Ent.z : Ent := ⟨0, 0, 0, 0⟩
abbrev Ent.v (x : Ent) : Value := rentV x.k x.a x.l x.n

-- The entries lie in block e, from its first cell on.
def EntsAt (w : World) (e : Nat) (xs : List Ent) : Prop :=
  ∀ i, i < xs.length → w.cell? ⟨e, i * 4, none⟩ = some (.int .i64 (xs[i]?.getD Ent.z).k) ∧ w.cell? ⟨e, i * 4 + 1, none⟩ = some (.int .i64 (xs[i]?.getD Ent.z).a) ∧ w.cell? ⟨e, i * 4 + 2, none⟩ = some (.int .i64 (xs[i]?.getD Ent.z).l) ∧ w.cell? ⟨e, i * 4 + 3, none⟩ = some (.int .i64 (xs[i]?.getD Ent.z).n)

-- What the search reads, in a later world.
theorem ents_later {w wr : World} {e bx st h : Nat} {xs : List Ent} (hx : EntsAt w e xs) (hbx : w.cell? ⟨bx, 0, none⟩ = some (ptrV st)) (hst : w.cell? ⟨st, 0, none⟩ = some cmpIV)
    (hB : Below w.heap.size w wr) (hh : h < xs.length) :
    wr.cell? ⟨e, h * 4, none⟩ = some (.int .i64 (xs[h]?.getD Ent.z).k) ∧ wr.cell? ⟨e, h * 4 + 1, none⟩ = some (.int .i64 (xs[h]?.getD Ent.z).a) ∧ wr.cell? ⟨e, h * 4 + 2, none⟩ = some (.int .i64 (xs[h]?.getD Ent.z).l) ∧ wr.cell? ⟨e, h * 4 + 3, none⟩ = some (.int .i64 (xs[h]?.getD Ent.z).n)
    ∧ wr.cell? ⟨bx, 0, none⟩ = some (ptrV st) ∧ wr.cell? ⟨st, 0, none⟩ = some cmpIV ∧ e < wr.heap.size := by
  obtain ⟨hx0, hx1, hx2, hx3⟩ := hx h hh
  have he := World.block_lt_of_cell? w _ hx0
  have h1 := World.block_lt_of_cell? w _ hbx
  have h2 := World.block_lt_of_cell? w _ hst
  simp only at he h1 h2
  have e0 : wr.cell? ⟨e, h * 4, none⟩ = some (.int .i64 (xs[h]?.getD Ent.z).k) := (hB.cell (p := ⟨e, h * 4, none⟩) he).trans hx0
  exact ⟨e0, (hB.cell (p := ⟨e, h * 4 + 1, none⟩) he).trans hx1, (hB.cell (p := ⟨e, h * 4 + 2, none⟩) he).trans hx2, (hB.cell (p := ⟨e, h * 4 + 3, none⟩) he).trans hx3,
    (hB.cell (p := ⟨bx, 0, none⟩) h1).trans hbx, (hB.cell (p := ⟨st, 0, none⟩) h2).trans hst, World.block_lt_of_cell? wr _ e0⟩

set_option maxHeartbeats 400000 in
theorem bsearch_any (xs : List Ent) (e cap bx st : Nat) (b : Int) (w : World) (hn : xs.length ≤ 1000000) (hx : EntsAt w e xs)
    (hbx : w.cell? ⟨bx, 0, none⟩ = some (ptrV st)) (hst : w.cell? ⟨st, 0, none⟩ = some cmpIV)
    (hmono : ∀ i j, i ≤ j → j < xs.length → cmpI (xs[j]?.getD Ent.z).k b < 0 → cmpI (xs[i]?.getD Ent.z).k b < 0) :
    Calls Try.prog 62 #[.slice (some ⟨e, 0, none⟩) xs.length cap, .int .i64 b, .func (.func 63) #[] #[ptrV bx]] w fun r w' =>
      Below w.heap.size w w' ∧ ∃ i : Nat, i ≤ xs.length ∧ (∀ k, k < i → cmpI (xs[k]?.getD Ent.z).k b < 0) ∧ (∀ k, i ≤ k → k < xs.length → 0 ≤ cmpI (xs[k]?.getD Ent.z).k b) ∧
        r = .returned (.tuple #[.int .i64 i, .bool (decide (i < xs.length) && (cmpI (xs[i]?.getD Ent.z).k b == 0))]) := by
  have h1 := World.block_lt_of_cell? w _ hbx
  have h2 := World.block_lt_of_cell? w _ hst
  simp only at h1 h2
  go_enter Try.func62, Try.ntmps62
  go_wp2
  have hmono' : Hid (∀ i j, i ≤ j → j < xs.length → cmpI (xs[j]?.getD Ent.z).k b < 0 → cmpI (xs[i]?.getD Ent.z).k b < 0) := hmono
  clear hmono
  go_loopw [9, 10] (fun i j wr => ∃ p q : Nat, i = .int .i64 p ∧ j = .int .i64 q ∧ p ≤ q ∧ q ≤ xs.length ∧ Hid (∀ k, k < p → cmpI (xs[k]?.getD Ent.z).k b < 0) ∧ Hid (∀ k, q ≤ k → k < xs.length → 0 ≤ cmpI (xs[k]?.getD Ent.z).k b) ∧ Below w.heap.size w wr) (fun i j _ => (intOf j).toNat - (intOf i).toNat)
  case atStart => exact ⟨0, xs.length, rfl, rfl, Nat.zero_le _, Nat.le_refl _, fun k hk => absurd hk (Nat.not_lt_zero _), fun k h1 h2 => absurd h1 (by omega), Below.refl _ _⟩
  case round =>
    obtain ⟨p, q, rfl, rfl, hpq, hq, hlo, hhi, hB⟩ := hrel
    by_cases hlt : p < q
    · obtain ⟨h, hh⟩ : ∃ h : Nat, ((p : Int) + (q : Int)) / 2 = (h : Int) := ⟨(p + q) / 2, by omega⟩
      have hh1 : p ≤ h := by omega
      have hh2 : h < q := by omega
      obtain ⟨e0, e1, e2, e3, b0, s0, l0⟩ := ents_later (h := h) hx hbx hst hB (by omega)
      have i0 : (0 : Int) ≤ (h : Int) := by omega
      have i1 : (h : Int) < (xs.length : Int) := by omega
      go_wp2_with fail
      refine (find1_any _ _ _ _ _ bx st _ b0 s0).mono ?_
      rintro _ w' ⟨rfl, hb⟩
      all_goals
        have hB2 : Below w.heap.size w w' := hB.trans (hb.mono hB.size)
        clear hB hb e0 e1 e2 e3 b0 s0 l0
        by_cases hcm : cmpI (xs[h]?.getD Ent.z).k b < 0
        · have HC := hide hcm
          go_wp2
          go_roundw
          case rel => exact ⟨h + 1, q, by go_num, rfl, by omega, hq, fun k hk => hmono'.out k h (by omega) (by omega) HC.out, hhi, hB2⟩
          case measure => simp [intOf]; omega
        · have HC := hide hcm
          go_wp2
          go_roundw
          case rel => exact ⟨p, h, rfl, rfl, hh1, by omega, hlo, fun k hk hk' => by
            rcases Nat.lt_or_ge k q with h3 | h3
            · exact Int.not_lt.1 fun hc => Int.not_lt.2 HC.out (hmono'.out h k hk hk' hc)
            · exact hhi.out k h3 hk', hB2⟩
          case measure => simp [intOf]; omega
    · obtain rfl : p = q := by omega
      by_cases hl2 : p < xs.length
      · obtain ⟨e0, e1, e2, e3, b0, s0, l0⟩ := ents_later (h := p) hx hbx hst hB hl2
        have i0 : (0 : Int) ≤ (p : Int) := by omega
        have i1 : (p : Int) < (xs.length : Int) := by omega
        go_wp2_with fail
        refine (find1_any _ _ _ _ _ bx st _ b0 s0).mono ?_
        rintro _ w' ⟨rfl, hb⟩
        have hB2 : Below w.heap.size w w' := hB.trans (hb.mono hB.size)
        clear hB hb e0 e1 e2 e3 b0 s0 l0
        go_wp2
        go_ret2
        exact ⟨hB2, p, hq, hlo, hhi, by simp [hl2]⟩
      · have hd : decide ((p : Int) < (xs.length : Int)) = false := by simp; omega
        go_wp2
        go_ret2
        exact ⟨hB, p, hq, hlo, hhi, by simp [hl2]⟩
end Go.Proofs.Ytkihifodifkieaa.R

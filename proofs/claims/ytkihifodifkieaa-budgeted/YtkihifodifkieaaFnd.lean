import Derived.Test.YtkihifodifkieaaPfx
namespace Go.Proofs.Ytkihifodifkieaa
open Go.RowKit

theorem hide {p : Prop} (h : p) : Hid p := h

abbrev entV (a l n : Int) : Value := .agg #[.int .i64 a, .int .i64 l, .int .i64 n]
abbrev ptrV (b : Nat) : Value := .pointer (some ⟨b, 0, none⟩)
abbrev cmpV : Value := .func (.func 36) #[] #[]

set_option maxHeartbeats 400000 in
theorem find1_any (a l n b m : Int) (bx st : Nat) (w : World) (hbx : w.cell? ⟨bx, 0, none⟩ = some (ptrV st)) (hst : w.cell? ⟨st, 0, none⟩ = some cmpV) :
    Calls Try.prog 67 #[entV a l n, pfxV b m, ptrV bx] w fun e w' => e = .returned (.int .i64 (cmpP a l b m)) ∧ Below w.heap.size w w' := by
  have h1 := World.block_lt_of_cell? w _ hbx
  have h2 := World.block_lt_of_cell? w _ hst
  simp only at h1 h2
  have h1' : bx < w.heap.size + 1 + 1 := by omega
  have h2' : st < w.heap.size + 1 + 1 := by omega
  have h3' : w.heap.size < w.heap.size + 1 + 1 := by omega
  go_enter Try.func67, Try.ntmps67
  go_wp2
  go_region_held3 (fun w' => w'.cell? ⟨bx, 0, none⟩ = some (ptrV st) ∧ w'.cell? ⟨st, 0, none⟩ = some cmpV ∧ w'.cell? ⟨w.heap.size, 0, none⟩ = some (.int .i64 a) ∧ w'.cell? ⟨w.heap.size, 1, none⟩ = some (.int .i64 l) ∧ w'.cell? ⟨w.heap.size + 1, 0, none⟩ = some (.int .i64 b) ∧ w'.cell? ⟨w.heap.size + 1, 1, none⟩ = some (.int .i64 m)) (go_keep)
    (first
      | (go_at_call 36; refine (compare_any _ _ _ _ _).mono ?_; rintro e w' ⟨rfl, hb⟩; have hc := (bcell hb).1))
  go_wp2
  go_ret
  exact ⟨rfl, (by repeat (first | exact Below.refl _ _ | refine below_drewN ?_ _ | refine Below.drew ?_ | refine Below.trans ?_ (Below.mono (by assumption) (by first | omega | (simp; omega) | simp)) | refine Below.alloc ?_ (by first | omega | (simp; omega) | simp) _ | refine Below.setCell ?_ (by first | omega | (simp; omega) | simp) _))⟩

structure Ent where
  a : Int
  l : Int
  n : Int
def Ent.z : Ent := ⟨0, 0, 0⟩
abbrev Ent.v (x : Ent) : Value := entV x.a x.l x.n

-- The entries lie in block e, from its first cell on.
def EntsAt (w : World) (e : Nat) (xs : List Ent) : Prop :=
  ∀ i, i < xs.length → w.cell? ⟨e, i * 3, none⟩ = some (.int .i64 (xs[i]?.getD Ent.z).a) ∧ w.cell? ⟨e, i * 3 + 1, none⟩ = some (.int .i64 (xs[i]?.getD Ent.z).l) ∧ w.cell? ⟨e, i * 3 + 2, none⟩ = some (.int .i64 (xs[i]?.getD Ent.z).n)

-- What the search reads, in a later world.
theorem ents_later {w wr : World} {e bx st h : Nat} {b m : Int} {xs : List Ent} (hx : EntsAt w e xs) (hbx : w.cell? ⟨bx, 0, none⟩ = some (ptrV st)) (hst : w.cell? ⟨st, 0, none⟩ = some cmpV)
    (hB : Below (w.heap.size + 1) (w.alloc (Obj.cells #[.int .i64 b, .int .i64 m] 54)) wr) (hh : h < xs.length) :
    wr.cell? ⟨e, h * 3, none⟩ = some (.int .i64 (xs[h]?.getD Ent.z).a) ∧ wr.cell? ⟨e, h * 3 + 1, none⟩ = some (.int .i64 (xs[h]?.getD Ent.z).l) ∧ wr.cell? ⟨e, h * 3 + 2, none⟩ = some (.int .i64 (xs[h]?.getD Ent.z).n)
    ∧ wr.cell? ⟨w.heap.size, 0, none⟩ = some (.int .i64 b) ∧ wr.cell? ⟨w.heap.size, 1, none⟩ = some (.int .i64 m) ∧ wr.cell? ⟨bx, 0, none⟩ = some (ptrV st) ∧ wr.cell? ⟨st, 0, none⟩ = some cmpV
    ∧ e < wr.heap.size ∧ w.heap.size < wr.heap.size := by
  obtain ⟨hx0, hx1, hx2⟩ := hx h hh
  have he := World.block_lt_of_cell? w _ hx0
  have h1 := World.block_lt_of_cell? w _ hbx
  have h2 := World.block_lt_of_cell? w _ hst
  simp only at he h1 h2
  have e0 : wr.cell? ⟨e, h * 3, none⟩ = some (.int .i64 (xs[h]?.getD Ent.z).a) := (hB.cell (p := ⟨e, h * 3, none⟩) (by simp; omega)).trans (by simp [go_sem, *])
  have t0 : wr.cell? ⟨w.heap.size, 0, none⟩ = some (.int .i64 b) := (hB.cell (p := ⟨w.heap.size, 0, none⟩) (by simp)).trans (by simp [go_sem])
  exact ⟨e0, (hB.cell (p := ⟨e, h * 3 + 1, none⟩) (by simp; omega)).trans (by simp [go_sem, *]), (hB.cell (p := ⟨e, h * 3 + 2, none⟩) (by simp; omega)).trans (by simp [go_sem, *]),
    t0, (hB.cell (p := ⟨w.heap.size, 1, none⟩) (by simp)).trans (by simp [go_sem]), (hB.cell (p := ⟨bx, 0, none⟩) (by simp; omega)).trans (by simp [go_sem, *]), (hB.cell (p := ⟨st, 0, none⟩) (by simp; omega)).trans (by simp [go_sem, *]),
    World.block_lt_of_cell? wr _ e0, World.block_lt_of_cell? wr _ t0⟩

set_option maxHeartbeats 400000 in
theorem bsearch_any (xs : List Ent) (e cap bx st : Nat) (b m : Int) (w : World) (hn : xs.length ≤ 1000000) (hx : EntsAt w e xs)
    (hbx : w.cell? ⟨bx, 0, none⟩ = some (ptrV st)) (hst : w.cell? ⟨st, 0, none⟩ = some cmpV)
    (hmono : ∀ i j, i ≤ j → j < xs.length → cmpP (xs[j]?.getD Ent.z).a (xs[j]?.getD Ent.z).l b m < 0 → cmpP (xs[i]?.getD Ent.z).a (xs[i]?.getD Ent.z).l b m < 0) :
    Calls Try.prog 66 #[.slice (some ⟨e, 0, none⟩) xs.length cap, pfxV b m, .func (.func 67) #[] #[ptrV bx]] w fun r w' =>
      Below w.heap.size w w' ∧ ∃ i : Nat, i ≤ xs.length ∧ (∀ k, k < i → cmpP (xs[k]?.getD Ent.z).a (xs[k]?.getD Ent.z).l b m < 0) ∧ (∀ k, i ≤ k → k < xs.length → 0 ≤ cmpP (xs[k]?.getD Ent.z).a (xs[k]?.getD Ent.z).l b m) ∧
        r = .returned (.tuple #[.int .i64 i, .bool (decide (i < xs.length) && (cmpP (xs[i]?.getD Ent.z).a (xs[i]?.getD Ent.z).l b m == 0))]) := by
  have h1 := World.block_lt_of_cell? w _ hbx
  have h2 := World.block_lt_of_cell? w _ hst
  simp only at h1 h2
  go_enter Try.func66, Try.ntmps66
  go_wp2
  have hmono' : Hid (∀ i j, i ≤ j → j < xs.length → cmpP (xs[j]?.getD Ent.z).a (xs[j]?.getD Ent.z).l b m < 0 → cmpP (xs[i]?.getD Ent.z).a (xs[i]?.getD Ent.z).l b m < 0) := hmono
  clear hmono
  go_loopw [9, 10] (fun i j wr => ∃ p q : Nat, i = .int .i64 p ∧ j = .int .i64 q ∧ p ≤ q ∧ q ≤ xs.length ∧ Hid (∀ k, k < p → cmpP (xs[k]?.getD Ent.z).a (xs[k]?.getD Ent.z).l b m < 0) ∧ Hid (∀ k, q ≤ k → k < xs.length → 0 ≤ cmpP (xs[k]?.getD Ent.z).a (xs[k]?.getD Ent.z).l b m) ∧ Below (w.heap.size + 1) (w.alloc (Obj.cells #[.int .i64 b, .int .i64 m] 54)) wr) (fun i j _ => (intOf j).toNat - (intOf i).toNat)
  case atStart => exact ⟨0, xs.length, rfl, rfl, Nat.zero_le _, Nat.le_refl _, fun k hk => absurd hk (Nat.not_lt_zero _), fun k h1 h2 => absurd h1 (by omega), Below.refl _ _⟩
  case round =>
    obtain ⟨p, q, rfl, rfl, hpq, hq, hlo, hhi, hB⟩ := hrel
    by_cases hlt : p < q
    · go_wp2
      have hh : ((p : Int) + (q : Int)) / 2 = (((p + q) / 2 : Nat) : Int) := by omega
      rw [hh]
      have hh1 : p ≤ (p + q) / 2 := by omega
      have hh2 : (p + q) / 2 < q := by omega
      clear hh
      generalize (p + q) / 2 = h at *
      obtain ⟨e0, e1, e2, t0, t1, b0, s0, l0, l1⟩ := ents_later (h := h) hx hbx hst hB (by omega)
      have i0 : (0 : Int) ≤ (h : Int) := by omega
      have i1 : (h : Int) < (xs.length : Int) := by omega
      go_region_held3 (fun w' => w'.cell? ⟨e, h * 3, none⟩ = some (.int .i64 (xs[h]?.getD Ent.z).a) ∧ w'.cell? ⟨e, h * 3 + 1, none⟩ = some (.int .i64 (xs[h]?.getD Ent.z).l) ∧ w'.cell? ⟨e, h * 3 + 2, none⟩ = some (.int .i64 (xs[h]?.getD Ent.z).n) ∧ w'.cell? ⟨w.heap.size, 0, none⟩ = some (.int .i64 b) ∧ w'.cell? ⟨w.heap.size, 1, none⟩ = some (.int .i64 m)) (go_keep)
        (first
          | (go_at_call 67; refine (find1_any _ _ _ _ _ bx st _ ?h1 ?h2).mono ?_; (case h1 => simp [go_sem, *]); (case h2 => simp [go_sem, *]); rintro _ w' ⟨rfl, hb⟩; have hc : ∀ b o, b < wr.heap.size → w'.cell? ⟨b, o, none⟩ = wr.cell? ⟨b, o, none⟩ := (bcell hb).1))
      have hB2 : Below (w.heap.size + 1) (w.alloc (Obj.cells #[.int .i64 b, .int .i64 m] 54)) w' := hB.drew.trans (hb.mono (by have := hB.size; simp at this; simp; omega))
      clear hB hb hc e0 e1 e2 t0 t1 b0 s0 l0 l1
      by_cases hcm : cmpP (xs[h]?.getD Ent.z).a (xs[h]?.getD Ent.z).l b m < 0
      · have HC := hide hcm
        go_wp2
        go_roundw
        case rel => exact ⟨h + 1, q, by go_num, rfl, by omega, hq, fun k hk => hmono'.out k h (by omega) (by omega) HC.out, hhi, hB2⟩
        case measure => simp [intOf]; omega
      · go_wp2
        go_roundw
        case rel => exact ⟨p, h, rfl, rfl, hh1, by omega, hlo, fun k hk hk' => by
          rcases Nat.lt_or_ge k q with h3 | h3
          · exact Int.not_lt.1 fun hc => hcm (hmono'.out h k hk hk' hc)
          · exact hhi.out k h3 hk', hB2⟩
        case measure => simp [intOf]; omega
    · obtain rfl : p = q := by omega
      by_cases hl2 : p < xs.length
      · obtain ⟨e0, e1, e2, t0, t1, b0, s0, l0, l1⟩ := ents_later (h := p) hx hbx hst hB hl2
        have i0 : (0 : Int) ≤ (p : Int) := by omega
        have i1 : (p : Int) < (xs.length : Int) := by omega
        go_wp2
        go_region_held3 (fun w' => w'.cell? ⟨e, p * 3, none⟩ = some (.int .i64 (xs[p]?.getD Ent.z).a) ∧ w'.cell? ⟨e, p * 3 + 1, none⟩ = some (.int .i64 (xs[p]?.getD Ent.z).l) ∧ w'.cell? ⟨e, p * 3 + 2, none⟩ = some (.int .i64 (xs[p]?.getD Ent.z).n) ∧ w'.cell? ⟨w.heap.size, 0, none⟩ = some (.int .i64 b) ∧ w'.cell? ⟨w.heap.size, 1, none⟩ = some (.int .i64 m)) (go_keep)
          (first
            | (go_at_call 67; refine (find1_any _ _ _ _ _ bx st _ ?h1 ?h2).mono ?_; (case h1 => simp [go_sem, *]); (case h2 => simp [go_sem, *]); rintro _ w' ⟨rfl, hb⟩; have hc : ∀ b o, b < wr.heap.size → w'.cell? ⟨b, o, none⟩ = wr.cell? ⟨b, o, none⟩ := (bcell hb).1))
        have hB2 : Below (w.heap.size + 1) (w.alloc (Obj.cells #[.int .i64 b, .int .i64 m] 54)) w' := hB.drew.trans (hb.mono (by have := hB.size; simp at this; simp; omega))
        clear hB hb hc e0 e1 e2 t0 t1 b0 s0 l0 l1
        go_wp2
        go_ret2
        exact ⟨((Below.refl _ w).alloc (Nat.le_refl _) _).trans (hB2.mono (by simp)), p, hq, hlo, hhi, by simp [hl2]⟩
      · have hd : decide ((p : Int) < (xs.length : Int)) = false := by simp; omega
        go_wp2
        go_quiet (fail)
        go_wp2
        go_ret2
        exact ⟨(by repeat (first | exact Below.refl _ _ | refine below_drewN ?_ _ | refine Below.drew ?_ | refine Below.trans ?_ (Below.mono (by assumption) (by first | omega | (simp; omega) | simp)) | refine Below.alloc ?_ (by first | omega | (simp; omega) | simp) _ | refine Below.setCell ?_ (by first | omega | (simp; omega) | simp) _)), p, hq, hlo, hhi, by simp [hl2]⟩
end Go.Proofs.Ytkihifodifkieaa

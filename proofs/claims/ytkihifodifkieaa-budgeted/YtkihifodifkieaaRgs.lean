import Derived.Test.YtkihifodifkieaaRgp
namespace Go.Proofs.Ytkihifodifkieaa
open Go.RowKit

def goB (o : Option Ent) (r : Ent) : Bool := match o with
  | some x => eqE x r
  | none => false

set_option maxHeartbeats 400000 in
theorem goesOn_any (p lp sp : Nat) (ys : List R.Ent) (F : List Nat) (i : Int) (r : Ent) (w : World) (hp : w.heap[p]? = some (.cells #[ptrV lp, ptrV sp] 92 (0, 0))) (hS : R.StoreF w sp ys F) (h0 : 0 ≤ i) (h1 : i < 256) :
    Calls Try.prog 50 #[ptrV p, .int .i64 i, rteV r.a r.l r.n] w fun e w' => Below w.heap.size w w' ∧ e = .returned (.bool (goB (R.lastR ys (i - 1)) r)) := by
  have hlt := (Array.getElem?_eq_some_iff.1 hp).1
  have c1 : w.cell? ⟨p, 1, none⟩ = some (ptrV sp) := by simp [World.cell?, hp]
  have hB1 : Below w.heap.size w (w.alloc (.cells #[.int .i64 r.a, .int .i64 r.l, .int .i64 r.n] 90)) := (Below.refl _ w).alloc (Nat.le_refl _) _
  have hw1 : IntKind.i64.wrap (i - 1) = i - 1 := by rw [IntKind.wrap_i64]; omega
  have hla := hide (R.last_F sp ys F (i - 1) _ (hS.later hB1))
  clear hp hS
  go_enter Try.func50, Try.ntmps50
  go_wp2_with fail
  refine hla.out.mono ?_
  rintro _ w2 ⟨hB2, rfl⟩
  have v0 : w2.cell? ⟨w.heap.size, 0, none⟩ = some (.int .i64 r.a) := (hB2.cell (p := ⟨w.heap.size, 0, none⟩) (by simp)).trans (by simp [go_sem])
  have v1 : w2.cell? ⟨w.heap.size, 1, none⟩ = some (.int .i64 r.l) := (hB2.cell (p := ⟨w.heap.size, 1, none⟩) (by simp)).trans (by simp [go_sem])
  have v2 : w2.cell? ⟨w.heap.size, 2, none⟩ = some (.int .i64 r.n) := (hB2.cell (p := ⟨w.heap.size, 2, none⟩) (by simp)).trans (by simp [go_sem])
  have hwl : w.heap.size < w2.heap.size := by have := hB2.size; simp at this; omega
  have hB3 := hB1.trans (hB2.mono (by simp))
  clear hla hB1 hB2
  cases hl : R.lastR ys (i - 1) with
  | none =>
    have HG := hide (show goB (R.lastR ys (i - 1)) r = false by rw [hl]; rfl)
    simp only [R.rteO, Option.isSome_none]
    clear hl
    go_wp2
    go_ret
    exact ⟨(by repeat (first | exact Below.refl _ _ | refine below_drewN ?_ _ | refine Below.drew ?_ | refine Below.trans ?_ (Below.mono (by assumption) (by first | omega | (simp; omega) | simp)) | refine Below.alloc ?_ (by first | omega | (simp; omega) | simp) _ | refine Below.setCell ?_ (by first | omega | (simp; omega) | simp) _)), by rw [HG.out]; rfl⟩
  | some x =>
    simp only [R.rteO, Option.isSome_some]
    cases he : eqE x r with
    | true =>
      have hx := (eqE_iff x r).1 he
      subst hx
      have HG := hide (show goB (R.lastR ys (i - 1)) x = true by rw [hl]; exact he)
      clear he hl
      go_wp2
      go_ret
      exact ⟨(by repeat (first | exact Below.refl _ _ | refine below_drewN ?_ _ | refine Below.drew ?_ | refine Below.trans ?_ (Below.mono (by assumption) (by first | omega | (simp; omega) | simp)) | refine Below.alloc ?_ (by first | omega | (simp; omega) | simp) _ | refine Below.setCell ?_ (by first | omega | (simp; omega) | simp) _)), by rw [HG.out]; rfl⟩
    | false =>
      have HG := hide (show goB (R.lastR ys (i - 1)) r = false by rw [hl]; exact he)
      have HN := hide (show ¬ (x.a = r.a ∧ x.l = r.l ∧ x.n = r.n) from fun ⟨h1, h2, h3⟩ => by simp [eqE, h1, h2, h3] at he)
      clear he hl
      go_wp2
      all_goals first
        | (exfalso; exact HN.out ⟨by assumption, by assumption, by assumption⟩)
        | (go_ret; exact ⟨(by repeat (first | exact Below.refl _ _ | refine below_drewN ?_ _ | refine Below.drew ?_ | refine Below.trans ?_ (Below.mono (by assumption) (by first | omega | (simp; omega) | simp)) | refine Below.alloc ?_ (by first | omega | (simp; omega) | simp) _ | refine Below.setCell ?_ (by first | omega | (simp; omega) | simp) _)), by rw [HG.out]; rfl⟩)

-- the pieces of a Ranges
structure RgW (w : World) (p lp sp : Nat) (xs : List Ent) (ys : List R.Ent) (F1 F2 : List Nat) : Prop where
  blk : w.heap[p]? = some (.cells #[ptrV lp, ptrV sp] 92 (0, 0))
  lst : ListF w lp xs F1
  str : R.StoreF w sp ys F2
  d1 : p ∉ F1
  d2 : p ∉ F2
  d3 : ∀ k ∈ F1, k ∉ F2
theorem RgW.lt {w : World} {p lp sp : Nat} {xs : List Ent} {ys : List R.Ent} {F1 F2 : List Nat} (h : RgW w p lp sp xs ys F1 F2) : p < w.heap.size := (Array.getElem?_eq_some_iff.1 h.blk).1
theorem RgW.later {w w' : World} {p lp sp : Nat} {xs : List Ent} {ys : List R.Ent} {F1 F2 : List Nat} (h : RgW w p lp sp xs ys F1 F2) (hB : Below w.heap.size w w') : RgW w' p lp sp xs ys F1 F2 :=
  ⟨(hB.block p h.lt).trans h.blk, h.lst.later hB, h.str.later hB, h.d1, h.d2, h.d3⟩
-- the store has turned
theorem RgW.turned {w w' : World} {p lp sp : Nat} {xs : List Ent} {ys ys' : List R.Ent} {F1 F2 F2' : List Nat} (h : RgW w p lp sp xs ys F1 F2) (hS : R.StoreF w' sp ys' F2') (hN : NewF w F2 F2') (hO : Only F2 w w') : RgW w' p lp sp xs ys' F1 F2' := by
  have hl := h.lst.lt
  refine ⟨(hO.block p h.lt h.d2).trans h.blk, h.lst.kept fun k hk => hO.block k (hl k hk) (h.d3 k hk), hS, h.d1, fun hk => ?_, fun k hk hk' => ?_⟩
  · rcases hN p hk with h1 | h1
    · exact h.d2 h1
    · have := h.lt; omega
  · rcases hN k hk' with h1 | h1
    · exact h.d3 k hk h1
    · have := hl k hk; omega

theorem wid_top {a l : Int} (h : isPfx a l = true) : a + wid l ≤ 256 := by
  obtain ⟨h0, h8, ha0, ha1, hm⟩ := (isPfx_iff a l).1 h
  have hl : l = 0 ∨ l = 1 ∨ l = 2 ∨ l = 3 ∨ l = 4 ∨ l = 5 ∨ l = 6 ∨ l = 7 ∨ l = 8 := by omega
  rcases hl with rfl | rfl | rfl | rfl | rfl | rfl | rfl | rfl | rfl <;> simp only [wid] at hm ⊢ <;> simp at hm ⊢ <;> omega

-- redraw, a round
def RdI (W0 wr : World) (p lp sp : Nat) (xs : List Ent) (ys : List R.Ent) (F1 F2 : List Nat) (i : Int) : Prop :=
  ∃ ys' F2', RgW wr p lp sp xs ys' F1 F2' ∧ NewF W0 F2 F2' ∧ Only F2 W0 wr ∧ ∀ k, R.getR ys' k = if k < i then strR xs k else R.getR ys k

theorem RdI.later {W0 wr w1 : World} {p lp sp : Nat} {xs : List Ent} {ys : List R.Ent} {F1 F2 : List Nat} {i : Int} (h : RdI W0 wr p lp sp xs ys F1 F2 i) (hB : Below wr.heap.size wr w1) : RdI W0 w1 p lp sp xs ys F1 F2 i := by
  obtain ⟨ys', F2', h1, h2, h3, h4⟩ := h
  exact ⟨ys', F2', h1.later hB, h2, h3.trans (Only.of_below [] hB) (by simp), h4⟩
-- the store has turned at i
theorem RdI.next {W0 w1 w2 : World} {p lp sp : Nat} {xs : List Ent} {ys ys1 ys2 : List R.Ent} {F1 F2 Fa Fb : List Nat} {i : Int} (h1 : RgW w1 p lp sp xs ys1 F1 Fa) (h2 : NewF W0 F2 Fa) (h3 : Only F2 W0 w1) (h4 : ∀ k, R.getR ys1 k = if k < i then strR xs k else R.getR ys k)
    (hS : R.StoreF w2 sp ys2 Fb) (hN : NewF w1 Fa Fb) (hO : Only Fa w1 w2) (hg : ∀ k, R.getR ys2 k = if i = k then strR xs i else R.getR ys1 k) : RdI W0 w2 p lp sp xs ys F1 F2 (i + 1) := by
  refine ⟨ys2, Fb, h1.turned hS hN hO, h2.trans hN h3.size, h3.trans hO h2, fun k => ?_⟩
  rw [hg, h4]
  by_cases hk : i = k
  · subst hk; rw [if_pos rfl, if_pos (by omega)]
  · rw [if_neg hk]
    by_cases hk2 : k < i
    · rw [if_pos hk2, if_pos (by omega)]
    · rw [if_neg hk2, if_neg (by omega)]

theorem RdI.len {wr : World} {p lp sp : Nat} {xs : List Ent} {ys ys' : List R.Ent} {F1 F2' : List Nat} {i : Int} (hR : RgW wr p lp sp xs ys' F1 F2') (hg : ∀ k, R.getR ys' k = if k < i then strR xs k else R.getR ys k) (hy : ∀ k, k < 0 ∨ 256 ≤ k → R.getR ys k = none) : ys'.length < 1000000 := by
  have hs := hR.str.sorted
  have := R_len (hi := 256) ys' 0 hs fun y hm => by
    have h1 := getR_mem hm
    rw [hg] at h1
    have h2 : ¬ (y.k < 0 ∨ 256 ≤ y.k) := fun hc => by
      rw [hy _ hc] at h1
      have : strR xs y.k = none := by rcases hc with hc | hc; exact strR_neg xs hc; exact strR_big xs hc
      rw [this] at h1
      split at h1 <;> cases h1
    omega
  omega

-- what the round finds
theorem RdI.goes {wr : World} {p lp sp : Nat} {xs : List Ent} {ys ys' : List R.Ent} {F1 F2' : List Nat} {i : Int} (hR : RgW wr p lp sp xs ys' F1 F2') (hg : ∀ k, R.getR ys' k = if k < i then strR xs k else R.getR ys k) (h0 : 0 ≤ i) (h1 : i < 256) :
    strR xs i = if goB (R.lastR ys' (i - 1)) (rt xs i) then none else some (rt xs i) := by
  by_cases hi : i = 0
  · subst hi
    have : R.lastR ys' (0 - 1) = none := last_neg fun k hk => by rw [hg, if_pos (by omega), strR_neg xs (by omega)]
    rw [this, strR_zero]; rfl
  · obtain ⟨m, rfl⟩ : ∃ m : Nat, i = (m : Int) + 1 := ⟨(i - 1).toNat, by omega⟩
    have := last_canon (xs := xs) hR.str.sorted m (by omega) (fun k hk => by rw [hg, if_pos (by omega)])
    rw [show (m : Int) + 1 - 1 = (m : Int) by omega, this, strR_in xs (by omega) h1, show (m : Int) + 1 - 1 = (m : Int) by omega]
    rfl

set_option maxHeartbeats 800000 in
theorem redraw_any (p lp sp : Nat) (xs : List Ent) (ys : List R.Ent) (F1 F2 : List Nat) (a l : Int) (w : World) (hR : RgW w p lp sp xs ys F1 F2) (hp : isPfx a l = true) (hlo : ∀ k, k < a → R.getR ys k = strR xs k) (hy : ∀ k, k < 0 ∨ 256 ≤ k → R.getR ys k = none) :
    Calls Try.prog 39 #[ptrV p, pfxV a l] w fun e w' => (∃ x, e = .returned x) ∧ ∃ ys' F2', RgW w' p lp sp xs ys' F1 F2' ∧ NewF w F2 F2' ∧ Only F2 w w' ∧ ∀ k, R.getR ys' k = if k ≤ a + wid l then strR xs k else R.getR ys k := by
  obtain ⟨l0, l8, a0, a1, _⟩ := (isPfx_iff a l).1 hp
  have htop := wid_top hp
  have hw0 := (wid_bd l).1
  have hB0 : Below w.heap.size w (w.alloc (.cells #[.int .i64 a, .int .i64 l] 54)) := (Below.refl _ w).alloc (Nat.le_refl _) _
  have hwF : w.heap.size ∉ F2 := fun h => by have := hR.str.lt _ h; omega
  have H0 : Hid (RdI (w.alloc (.cells #[.int .i64 a, .int .i64 l] 54)) (w.alloc (.cells #[.int .i64 a, .int .i64 l] 54)) p lp sp xs ys F1 F2 a) :=
    ⟨ys, F2, hR.later hB0, NewF.refl _ _, Only.refl _ _, fun k => by split; exact hlo k (by assumption); rfl⟩
  have Hy := hide hy
  have Hfin : Hid (∀ wr i, RdI (w.alloc (.cells #[.int .i64 a, .int .i64 l] 54)) wr p lp sp xs ys F1 F2 i → (i = a + wid l + 1 ∨ (i = 256 ∧ a + wid l = 256)) → ∃ ys' F2', RgW wr p lp sp xs ys' F1 F2' ∧ NewF w F2 F2' ∧ Only F2 w wr ∧ ∀ k, R.getR ys' k = if k ≤ a + wid l then strR xs k else R.getR ys k) := by
    rintro wr i ⟨ys', F2', h1, h2, h3, h4⟩ hi
    refine ⟨ys', F2', h1, fun k hk => (h2 k hk).imp id (fun h => by have := hB0.size; omega), (Only.of_below _ hB0).trans h3 (fun x hx => .inl hx), fun k => ?_⟩
    rw [h4]
    rcases hi with hi | ⟨hi, ht⟩
    · subst hi
      by_cases hk : k ≤ a + wid l
      · rw [if_pos hk, if_pos (by omega)]
      · rw [if_neg hk, if_neg (by omega)]
    · subst hi
      by_cases hk : k < 256
      · rw [if_pos hk, if_pos (by omega)]
      · rw [if_neg hk, hy k (by omega)]
        split
        · rw [strR_big xs (by omega)]
        · rfl
  clear hlo hy hR hB0
  go_enter Try.func39, Try.ntmps39
  go_wp2
  go_loopw [4] (fun sl wr => ∃ i : Int, a ≤ i ∧ i ≤ 256 ∧ i ≤ a + wid l + 1 ∧ sl = .int .i64 i ∧ Hid (RdI (w.alloc (.cells #[.int .i64 a, .int .i64 l] 54)) wr p lp sp xs ys F1 F2 i)) (fun s _ => (256 - intOf s).toNat)
  case atStart => exact ⟨a, by omega, by omega, by omega, rfl, H0⟩
  case round =>
    obtain ⟨i, hi0, hi1, hi2, rfl, HI⟩ := hrel
    obtain ⟨ys', F2', hR, hN, hO, hg⟩ := HI.out
    have b0 : wr.cell? ⟨w.heap.size, 0, none⟩ = some (.int .i64 a) := (hO.cell (by simp) hwF).trans (by simp [go_sem])
    have b1 : wr.cell? ⟨w.heap.size, 1, none⟩ = some (.int .i64 l) := (hO.cell (by simp) hwF).trans (by simp [go_sem])
    have hwl : w.heap.size < wr.heap.size := by have := hO.size; simp at this; omega
    have hpl := hR.lt
    have cp0 : wr.cell? ⟨p, 0, none⟩ = some (ptrV lp) := by simp [World.cell?, hR.blk]
    have cp1 : wr.cell? ⟨p, 1, none⟩ = some (ptrV sp) := by simp [World.cell?, hR.blk]
    have Hbe := hide (behind_any a l l0 l8 a0 a1 wr)
    by_cases hc : i ≤ a + wid l
    · have HR := hide hR
      have HN := hide hN
      have HO := hide hO
      have Hg := hide hg
      clear hR hN hO hg
      have had := hide (isAddress_any i)
      by_cases hc2 : i < 256
      · have hca : (decide (0 ≤ i) && decide (i < 256)) = true := by simp [hc2]; omega
        rw [hca] at had
        have h0i : 0 ≤ i := by omega
        have hgo := RdI.goes HR.out Hg.out h0i hc2
        have hlen := RdI.len HR.out Hg.out Hy.out
        have Hlen := hide hlen
        have hw1 : IntKind.i64.wrap (i + 1) = i + 1 := by rw [IntKind.wrap_i64]; omega
        clear hca hlen
        go_wp2_with fail
        refine Hbe.out.mono ?_
        rintro _ w1 ⟨rfl, hB1⟩
        go_wp2_with fail
        refine (had.out w1).mono ?_
        rintro _ w1' ⟨rfl, rfl⟩
        have hR1 := HR.out.later hB1
        have cq0 : w1'.cell? ⟨p, 0, none⟩ = some (ptrV lp) := by simp [World.cell?, hR1.blk]
        have hbs := hide (lstBest_any lp xs F1 i w1' hR1.lst h0i hc2)
        clear b0 b1 cp0 cp1 Hbe had hR1
        go_wp2_with fail
        refine hbs.out.mono ?_
        rintro _ w2 ⟨hB2, rfl⟩
        rw [rteO_rt]
        generalize hrt : rt xs i = r at *
        have Hrt := hide hrt
        clear hrt
        have hB3 : Below wr.heap.size wr (w2.alloc (.cells #[.int .i64 r.a, .int .i64 r.l, .int .i64 r.n] 90)) := (hB1.trans (hB2.mono hB1.size)).alloc (by have := hB1.size; have := hB2.size; omega) _
        have hR3 := HR.out.later hB3
        have hgn := hide (goesOn_any p lp sp ys' F2' i r _ hR3.blk hR3.str h0i hc2)
        clear hbs cq0 hR3
        go_wp2_with fail
        refine hgn.out.mono ?_
        rintro _ w4 ⟨hB4, rfl⟩
        have hB5 : Below wr.heap.size wr w4 := hB3.trans (hB4.mono hB3.size)
        have hR5 := HR.out.later hB5
        have hz5 : w2.heap.size < w4.heap.size := by have := hB4.size; simp at this; omega
        have k0 : w4.cell? ⟨w2.heap.size, 0, none⟩ = some (.int .i64 r.a) := (hB4.cell (p := ⟨w2.heap.size, 0, none⟩) (by simp)).trans (by simp [go_sem])
        have k1 : w4.cell? ⟨w2.heap.size, 1, none⟩ = some (.int .i64 r.l) := (hB4.cell (p := ⟨w2.heap.size, 1, none⟩) (by simp)).trans (by simp [go_sem])
        have k2 : w4.cell? ⟨w2.heap.size, 2, none⟩ = some (.int .i64 r.n) := (hB4.cell (p := ⟨w2.heap.size, 2, none⟩) (by simp)).trans (by simp [go_sem])
        have cq1 : w4.cell? ⟨p, 1, none⟩ = some (ptrV sp) := by simp [World.cell?, hR5.blk]
        have hp4 := hR5.lt
        have HR5 := hide hR5
        have HO5 := hide (show Only F2 _ w4 from HO.out.trans (Only.of_below [] hB5) (by simp))
        have hwF2 : w2.heap.size ∉ F2' := fun h => by have := HR.out.str.lt _ h; have := hB1.size; have := hB2.size; omega
        have hpF2 : p ∉ F2' := hR5.d2
        cases hgb : goB (R.lastR ys' (i - 1)) r with
        | true =>
          rw [hgb] at hgo
          simp only [if_true] at hgo
          have hrm := hide (R.remove_F sp ys' F2' i w4 hR5.str)
          have HGO := hide hgo
          clear hgb hgo hB1 hB2 hB3 hB4 hB5 hR5 hgn k0 k1 k2 hpF2 hwF2
          go_wp2_with fail
          refine hrm.out.mono ?_
          rintro _ w6 ⟨⟨F6, h61, h62⟩, h63, ⟨x, rfl⟩⟩
          have nxt := hide (RdI.next (i := i) HR5.out HN.out HO5.out Hg.out h61 h62 h63 (fun k => by rw [R.getR_del HR5.out.str.sorted, HGO.out]))
          clear h61 h62 h63 hrm
          go_wp2
          go_roundw
          case rel => exact ⟨i + 1, by omega, by omega, by omega, rfl, nxt.out⟩
          case measure => simp [intOf]; omega
        | false =>
          rw [hgb] at hgo
          simp only [Bool.false_eq_true, if_false] at hgo
          have hpt := hide (fun W (hW : Below w4.heap.size w4 W) => R.put_F sp ys' F2' i r W (hR5.str.later hW) Hlen.out)
          have HGO := hide hgo
          have hBd : Below w4.heap.size w4 w4.drew := (Below.refl _ w4).drew
          clear hgb hgo hB1 hB2 hB3 hB4 hB5 hR5 hgn
          go_wp2
          go_region_held3 (fun w' => w'.cell? ⟨p, 1, none⟩ = some (ptrV sp) ∧ w'.cell? ⟨w2.heap.size, 0, none⟩ = some (.int .i64 r.a) ∧ w'.cell? ⟨w2.heap.size, 1, none⟩ = some (.int .i64 r.l) ∧ w'.cell? ⟨w2.heap.size, 2, none⟩ = some (.int .i64 r.n)) (go_keep)
            (first
              | (go_at_call 52; refine (hpt.out _ hBd).mono ?_; rintro _ w6 ⟨h6, h63, ⟨x, rfl⟩⟩; (have hc1 : ∀ o, w6.cell? ⟨p, o, none⟩ = w4.cell? ⟨p, o, none⟩ := fun o => h63.cell hp4 hpF2); (have hc2 : ∀ o, w6.cell? ⟨w2.heap.size, o, none⟩ = w4.cell? ⟨w2.heap.size, o, none⟩ := fun o => h63.cell hz5 hwF2)))
          obtain ⟨F6, h61, h62⟩ := h6
          have nxt := hide (RdI.next (i := i) HR5.out HN.out HO5.out Hg.out h61 h62 ((Only.of_below _ hBd).trans h63 (fun x hx => .inl hx)) (fun k => by rw [R.getR_put HR5.out.str.sorted, HGO.out]))
          clear h61 h62 h63 hpt hc1 hc2 k0 k1 k2
          go_wp2
          go_roundw
          case rel => exact ⟨i + 1, by omega, by omega, by omega, rfl, nxt.out⟩
          case measure => simp [intOf]; omega
      · have hca : (decide (0 ≤ i) && decide (i < 256)) = false := by simp; omega
        rw [hca] at had
        have hie : i = 256 ∧ a + wid l = 256 := ⟨by omega, by omega⟩
        have Hie := hide hie
        clear hie hc2 hca
        go_wp2_with fail
        refine Hbe.out.mono ?_
        rintro _ w1 ⟨rfl, hB1⟩
        have hfin := hide (Hfin.out w1 i (HI.out.later hB1) (.inr Hie.out))
        clear hB1
        go_wp2_with fail
        refine (had.out w1).mono ?_
        rintro _ w1' ⟨rfl, rfl⟩
        go_wp2
        go_end0
        exact ⟨⟨_, rfl⟩, hfin.out⟩
    · have hd : decide (i ≤ a + wid l) = false := by simpa using hc
      have hie : i = a + wid l + 1 := by omega
      have Hie := hide hie
      clear hR hN hO hg hc hie
      go_wp2_with fail
      refine Hbe.out.mono ?_
      rintro _ w1 ⟨rfl, hB1⟩
      have hfin := hide (Hfin.out w1 i (HI.out.later hB1) (.inl Hie.out))
      clear hB1
      go_wp2
      go_end0
      exact ⟨⟨_, rfl⟩, hfin.out⟩

end Go.Proofs.Ytkihifodifkieaa

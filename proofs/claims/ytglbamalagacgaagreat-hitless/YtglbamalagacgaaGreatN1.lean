import Derived.Test.YtglbamalagacgaaGreatF1
import Derived.Test.YtglbamalagacgaaGreatK1
import Derived.Test.YtglbamalagacgaaGreatN0
import Derived.Test.YtglbamalagacgaaGreatT4
namespace Go.Proofs.YtglbamalagacgaaGreat
open Go.RowKit Go.Shelf

-- HOW MANY CELLS SO MANY ROUTES NEED
theorem updB_same {S : Nat → Bool} {d : Nat} (h : S d = true) : updB S d = S := by
  funext c
  unfold updB
  by_cases hc : c = d
  · subst hc; simp [h]
  · simp [hc]
theorem cntA_one {S : Nat → Bool} {d : Nat} (h1 : 1 ≤ d) (h2 : d < 512) : cntA (updB S d) 8 1 ≤ cntA S 8 1 + 1 := by
  cases hS : S d with
  | true => rw [updB_same hS]; omega
  | false => rw [cntA_upd hS, occ_one h1 h2]; omega
theorem levels_set {S : Nat → Bool} {P : Nat → Prop} (h : SetOf S P) {a : Nat} (ha : a < 256) (h1 : P 1) : ∀ j, j ≤ 8 → ∃ S', SetOf S' (fun c => P c ∨ ∃ k, k ≤ j ∧ c = pcn a k) ∧ cntA S' 8 1 ≤ cntA S 8 1 + j
  | 0, _ => ⟨S, h.congr fun c => ⟨.inl, fun hc => hc.elim id fun ⟨k, hk, e⟩ => by
      obtain rfl : k = 0 := by omega
      rw [pcn_zero ha] at e
      rw [e]; exact h1⟩, Nat.le_refl _⟩
  | j + 1, hj => by
    obtain ⟨S', h2, h3⟩ := levels_set h ha h1 j (by omega)
    have hp := pcn_pos (A := a) (i := j + 1) (by omega) (by omega)
    refine ⟨updB S' (pcn a (j + 1)), (h2.upd _).congr fun c => ?_, by have := cntA_one (S := S') hp.1 hp.2; omega⟩
    constructor
    · rintro ((h | ⟨k, h, e⟩) | e)
      · exact .inl h
      · exact .inr ⟨k, by omega, e⟩
      · exact .inr ⟨j + 1, by omega, e⟩
    · rintro (h | ⟨k, h, e⟩)
      · exact .inl (.inl h)
      · rcases Nat.lt_or_ge k (j + 1) with h4 | h4
        · exact .inl (.inr ⟨k, by omega, e⟩)
        · obtain rfl : k = j + 1 := by omega
          exact .inr e
theorem routes_set : ∀ {xs : List Ent}, (∀ x ∈ xs, okE x) → ∃ S, SetOf S (fun c => c = 1 ∨ ∃ x ∈ xs, ∃ k : Nat, (k : Int) ≤ x.l ∧ c = pcn x.a.toNat k) ∧ cntA S 8 1 ≤ 1 + 8 * xs.length
  | [], _ => ⟨fun c => c == 1, fun c => by simp, by decide⟩
  | x :: xs, hk => by
    obtain ⟨S, h1, h2⟩ := routes_set (xs := xs) fun y hy => hk y (by simp [hy])
    have hp := (isPfx_iff _ _).1 (hk x (by simp)).1
    obtain ⟨S', h3, h4⟩ := levels_set h1 (a := x.a.toNat) (by omega) (.inl rfl) x.l.toNat (by omega)
    refine ⟨S', h3.congr fun c => ?_, by rw [List.length_cons]; omega⟩
    constructor
    · rintro ((h | ⟨y, hy, h⟩) | ⟨k, h, e⟩)
      · exact .inl h
      · exact .inr ⟨y, by simp [hy], h⟩
      · exact .inr ⟨x, by simp, k, by omega, e⟩
    · rintro (h | ⟨y, hy, k, h, e⟩)
      · exact .inl (.inl h)
      · rcases List.mem_cons.1 hy with rfl | hy
        · exact .inr ⟨k, by omega, e⟩
        · exact .inl (.inr ⟨y, hy, k, h, e⟩)
theorem trieN_len {xs : List Ent} (hk : ∀ x ∈ xs, okE x) : trieN xs ≤ 1 + 8 * (xs.length : Int) := by
  obtain ⟨S, h1, h2⟩ := routes_set hk
  rw [← cnt_trie hk (h1.congr fun c => ?_)]
  · omega
  · unfold plc
    refine or_congr Iff.rfl (exists_congr fun x => and_congr_right fun hx => ?_)
    have hp := (isPfx_iff _ _).1 (hk x hx).1
    constructor
    · rintro ⟨k, h, e⟩; exact ⟨by unfold rkE; omega, k, h, e⟩
    · rintro ⟨_, k, h, e⟩; exact ⟨k, h, e⟩
-- where stretches begin
def endsL (xs : List Ent) : List Int := xs.flatMap fun x => [x.a, x.a + wid x.l]
theorem endsL_len (xs : List Ent) : (endsL xs).length = 2 * xs.length := by
  induction xs with
  | nil => rfl
  | cons x xs ih => simp only [endsL, List.flatMap_cons, List.length_append, List.length_cons, List.length_nil] at ih ⊢; omega
theorem cov_next {a : Int} {j : Nat} (hj : j ≤ 8) : cov (a - 1) j = cov a j ∨ (cov a j = a ∧ cov (a - 1) j + wid j = a) := by
  unfold cov
  have e1 : j = 0 ∨ j = 1 ∨ j = 2 ∨ j = 3 ∨ j = 4 ∨ j = 5 ∨ j = 6 ∨ j = 7 ∨ j = 8 := by omega
  rcases e1 with rfl | rfl | rfl | rfl | rfl | rfl | rfl | rfl | rfl <;> simp [wid] <;> omega
theorem same_of_ends {xs : List Ent} (hs : Sorted xs) {a : Nat} (h : (a : Int) ∉ endsL xs) : sameR xs ((a : Int) - 1) a := by
  have key : ∀ j : Nat, j < 9 → cov ((a : Int) - 1) j = cov a j ∨ ((getE xs (cov ((a : Int) - 1) j) j).isSome = false ∧ (getE xs (cov (a : Int) j) j).isSome = false) := fun j hj => by
    rcases cov_next (a := (a : Int)) (j := j) (by omega) with h2 | ⟨h2, h3⟩
    · exact .inl h2
    · refine .inr ⟨?_, ?_⟩
      · rw [Bool.eq_false_iff]
        intro h4
        obtain ⟨x, hx, e1, e2⟩ := (isSome_mem hs _ _).1 h4
        exact h (List.mem_flatMap.2 ⟨x, hx, by simp; right; rw [e1, e2]; exact h3.symm⟩)
      · rw [Bool.eq_false_iff]
        intro h4
        obtain ⟨x, hx, e1, e2⟩ := (isSome_mem hs _ _).1 h4
        exact h (List.mem_flatMap.2 ⟨x, hx, by simp; left; rw [e1]; exact h2.symm⟩)
  refine ⟨blN_congr 9 fun j hj => ?_, fun m hm => ?_⟩
  · rcases key j hj with h2 | ⟨h2, h3⟩
    · rw [h2]
    · rw [h2, h3]
  · obtain ⟨h2, h3⟩ := blN_get 9 hm
    rcases key m h3 with h4 | ⟨h4, _⟩
    · exact h4
    · rw [h4] at h2; cases h2
theorem filter_lt_cons (e n : Int) (E : List Int) : ((e :: E).filter fun e => decide (e < n)).length = (if e < n then 1 else 0) + (E.filter fun e => decide (e < n)).length := by
  by_cases h : e < n
  · simp [h]; omega
  · simp [h]
theorem filter_lt_succ (E : List Int) (n : Int) : (E.filter fun e => decide (e < n)).length + (if n ∈ E then 1 else 0) ≤ (E.filter fun e => decide (e < n + 1)).length := by
  induction E with
  | nil => simp
  | cons e E ih =>
    have hC : (if n ∈ e :: E then 1 else 0) ≤ (if e = n then 1 else 0) + (if n ∈ E then 1 else 0 : Nat) := by
      by_cases h1 : e = n
      · simp [h1]
      · have h2 : n ≠ e := fun h => h1 h.symm
        simp [h1, h2]
    rw [filter_lt_cons, filter_lt_cons]
    by_cases h1 : e < n
    · have h2 : ¬ e = n := by omega
      have h3 : e < n + 1 := by omega
      rw [if_neg h2] at hC
      rw [if_pos h1, if_pos h3]
      omega
    · rw [if_neg h1]
      by_cases h2 : e = n
      · have h3 : e < n + 1 := by omega
        rw [if_pos h2] at hC
        rw [if_pos h3]
        omega
      · have h3 : ¬ e < n + 1 := by omega
        rw [if_neg h2] at hC
        rw [if_neg h3]
        omega
theorem str_ends {xs : List Ent} (hs : Sorted xs) (hk : ∀ x ∈ xs, okE x) : ∀ n, n < 256 → (strN xs (n + 1)).length ≤ 1 + ((endsL xs).filter fun e => decide (e < (n : Int) + 1)).length
  | 0, _ => by rw [str_one]; omega
  | n + 1, h => by
    have ih := str_ends hs hk n (by omega)
    have hf := filter_lt_succ (endsL xs) ((n : Int) + 1)
    obtain ⟨h1, h2⟩ := str_succ hk (a := n + 1) (by omega) h
    by_cases hm : ((n : Int) + 1) ∈ endsL xs
    · rw [if_pos hm] at hf
      have : (strN xs (n + 1 + 1)).length ≤ (strN xs (n + 1)).length + 1 := by
        by_cases hsm : sameR xs (((n + 1 : Nat) : Int) - 1) ((n + 1 : Nat) : Int)
        · rw [h1 hsm]; omega
        · rw [h2 hsm]; omega
      have e : ((n + 1 : Nat) : Int) + 1 = (n : Int) + 1 + 1 := by omega
      rw [e]
      omega
    · have := h1 (same_of_ends hs (by rw [show ((n + 1 : Nat) : Int) = (n : Int) + 1 by omega]; exact hm))
      rw [if_neg hm] at hf
      have e : ((n + 1 : Nat) : Int) + 1 = (n : Int) + 1 + 1 := by omega
      rw [e]
      omega
theorem strL_len {xs : List Ent} (hs : Sorted xs) (hk : ∀ x ∈ xs, okE x) : (strL xs).length ≤ 1 + 2 * xs.length := by
  have h := str_ends hs hk 255 (by omega)
  have h2 := List.length_filter_le (fun e => decide (e < ((255 : Nat) : Int) + 1)) (endsL xs)
  rw [endsL_len] at h2
  exact Nat.le_trans h (by omega)
theorem need_few {k : Int} {xs : List Ent} (hs : Sorted xs) (hk : ∀ x ∈ xs, okE x) (hl : xs.length ≤ 36) : needK k xs ≤ 400 := by
  have h1 := trieN_len hk
  have h2 := strL_len hs hk
  unfold needK
  split
  · omega
  split
  · omega
  · omega

-- WHAT A BATCH IS ANSWERED, where there are cells enough
def appX (cs : List Chg) (xs : List Ent) : Int × Int × List Ent := if 16 < cs.length then (0, 12, xs) else if (tryX cs xs 0).2.2 ≠ 0 then (((tryX cs xs 0).2.1 : Nat), (tryX cs xs 0).2.2, xs) else ((cs.length : Nat), 0, (tryX cs xs 0).1)
theorem setE_len (xs : List Ent) (a l n : Int) : (setE xs a l n).length ≤ xs.length + 1 := by
  unfold setE
  split
  · have := delE_len xs a l; omega
  · exact putE_length xs a l n
theorem tryX_len : ∀ (cs : List Chg) (xs : List Ent) (i : Nat), (tryX cs xs i).1.length ≤ xs.length + cs.length
  | [], xs, i => by simp [tryX]
  | x :: cs, xs, i => by
    rw [tryX]
    split
    · simp only [List.length_cons]; omega
    split
    · simp only [List.length_cons]; omega
    split
    · simp only [List.length_cons]; omega
    · have := tryX_len cs (setE xs x.a x.l x.n) (i + 1)
      have := setE_len xs x.a x.l x.n
      simp only [List.length_cons]; omega
theorem apply_b (s : TS) (cs : List Chg) : (s.apply cs).2.2.b = s.b := by
  unfold TS.apply
  split
  · rfl
  split
  · rfl
  split
  · rfl
  · exact (follow_same _ _ _).1
theorem apply_free {s : TS} {cs : List Chg} (h : needK s.k (tryX cs s.xs 0).1 ≤ s.b ∨ needK s.k (tryX cs s.xs 0).1 ≤ needK s.k s.xs ∨ 16 < cs.length ∨ (tryX cs s.xs 0).2.2 ≠ 0) : (s.apply cs).1 = (appX cs s.xs).1 ∧ (s.apply cs).2.1 = (appX cs s.xs).2.1 ∧ (s.apply cs).2.2.xs = (appX cs s.xs).2.2 := by
  unfold TS.apply appX
  by_cases h1 : 16 < cs.length
  · rw [if_pos h1, if_pos h1]; exact ⟨rfl, rfl, rfl⟩
  rw [if_neg h1, if_neg h1]
  by_cases h2 : (tryX cs s.xs 0).2.2 ≠ 0
  · rw [if_pos h2, if_pos h2]; exact ⟨rfl, rfl, rfl⟩
  rw [if_neg h2, if_neg h2, if_neg (by rcases h with h | h | h | h; omega; omega; exact absurd h h1; exact absurd h h2)]
  exact ⟨rfl, rfl, follow_xs _ _ _ _⟩
theorem appX_err (cs : List Chg) (xs : List Ent) : (appX cs xs).2.1 ≠ 6 := by
  unfold appX
  split
  · exact fun h => by cases h
  split
  · rename_i h
    intro h6
    have key : ∀ (cs : List Chg) (xs : List Ent) (i : Nat), (tryX cs xs i).2.2 ≠ 6 := by
      intro cs
      induction cs with
      | nil => intro xs i h; cases h
      | cons x cs ih =>
        intro xs i
        rw [tryX]
        split
        · exact fun h => by cases h
        split
        · exact fun h => by cases h
        split
        · exact fun h => by cases h
        · exact ih _ _
    exact key _ _ _ h6
  · exact fun h => by cases h

end Go.Proofs.YtglbamalagacgaaGreat

namespace Go.Proofs.YtglbamalagacgaaGreat
open Go.RowKit Go.Shelf

attribute [local go_sem] Oper.semAt_some

set_option maxHeartbeats 2000000 in
set_option maxRecDepth 4000 in
theorem sameRoutes_any (w : World) (u v : Value) (ys : List Ent) (hu : RowG 90 3 w u ys.length (rteC ys)) (hv : RowG 90 3 w v ys.length (rteC ys)) (hl : ys.length ≤ 1000000) :
    Calls Tryz.prog 29 #[u, v] w fun r w' => r = .returned (.bool true) ∧ Below w.heap.size w w' := by
  obtain ⟨ua, uc, rfl⟩ := hu.shape
  obtain ⟨va, vc, rfl⟩ := hv.shape
  have HU := hide hu
  have HV := hide hv
  clear hu hv
  go_enter Tryz.func29, Tryz.ntmps29
  go_wp2
  go_loopw [5] (fun sl wr => ∃ j : Nat, j ≤ ys.length ∧ sl = .int .i64 (j : Int) ∧ Hid (Below w.heap.size w wr)) (fun s _ => ys.length - (intOf s).toNat)
  case atStart => exact ⟨0, by omega, rfl, Below.refl _ _⟩
  case round =>
    obtain ⟨j, hj, rfl, HB⟩ := hrel
    by_cases hlt : j < ys.length
    · obtain ⟨x, hx⟩ : ∃ x, ys[j]? = some x := ⟨_, List.getElem?_eq_getElem hlt⟩
      obtain ⟨g1, e1, a0, a1, a2, a3⟩ := rowG_rte HU.out hx
      obtain ⟨g2, e2, b0, b1, b2, b3⟩ := rowG_rte HV.out hx
      subst e1
      subst e2
      obtain ⟨xa, xl, xn⟩ := x
      simp only at a1 a2 a3 b1 b2 b3
      have l0 : (0 : Int) ≤ (j : Int) := by omega
      have l1 : (j : Int) < (ys.length : Int) := by omega
      have f0 := (HB.out.cell (p := ⟨g1, j * 3, none⟩) a0).trans a1
      have f1 := (HB.out.cell (p := ⟨g1, j * 3 + 1, none⟩) a0).trans a2
      have f2 := (HB.out.cell (p := ⟨g1, j * 3 + 2, none⟩) a0).trans a3
      have k0 := (HB.out.cell (p := ⟨g2, j * 3, none⟩) b0).trans b1
      have k1 := (HB.out.cell (p := ⟨g2, j * 3 + 1, none⟩) b0).trans b2
      have k2 := (HB.out.cell (p := ⟨g2, j * 3 + 2, none⟩) b0).trans b3
      have hw4 : IntKind.i64.wrap ((j : Int) + 1) = (j : Int) + 1 := by rw [IntKind.wrap_i64]; omega
      have next := hide (show ∀ W, Below wr.heap.size wr W → ∃ j' : Nat, j' ≤ ys.length ∧ Value.int .i64 ((j : Int) + 1) = .int .i64 (j' : Int) ∧ Hid (Below w.heap.size w W) from fun W hW => ⟨j + 1, by omega, by simp, HB.out.trans (hW.mono HB.out.size)⟩)
      clear a1 a2 a3 b1 b2 b3 hx
      go_wp2
      go_quiet (fail)
      go_wp2
      exact ⟨next.out _ (by repeat (first | exact Below.refl _ _ | refine below_drewN ?_ _ | refine Below.drew ?_ | refine Below.trans ?_ (Below.mono (by assumption) (by first | omega | (simp; omega) | simp)) | refine Below.alloc ?_ (by first | omega | (simp; omega) | simp) _ | refine Below.setCell ?_ (by first | omega | (simp; omega) | simp) _)), by simp [intOf]; omega⟩
    · obtain rfl : j = ys.length := by omega
      go_wp2
      go_ret
      exact ⟨rfl, HB.out⟩

-- are there few routes?
set_option maxHeartbeats 400000 in
theorem few_any (w : World) (b t : Nat) (s : TS) (A : List Nat) (hb : w.cell? ⟨b, 4, none⟩ = some (ptrV t)) (hT : TT w t s A) :
    Calls Tryz.prog 26 #[ptrV b] w fun r w' => r = .returned (.bool (decide (s.xs.length ≤ 20))) ∧ Below w.heap.size w w' := by
  have bl := World.block_lt_of_cell? w _ hb
  simp only at bl
  have e1 : pagE 0 0 21 = 0 := by decide
  have e2 : pagL s.xs 0 0 21 = s.xs.take 21 := by unfold pagL; rw [if_pos e1, from_all hT.ok.ok]; rfl
  have hpg := hide (hT.page 0 0 21)
  rw [e1, e2] at hpg
  have hd : (decide (((s.xs.take 21).length : Int) ≤ 20)) = decide (s.xs.length ≤ 20) := by
    rw [List.length_take]
    refine decide_eq_decide.2 ?_
    omega
  have HD := hide hd
  generalize s.xs.take 21 = ys at *
  clear hT hd e1 e2
  go_enter Tryz.func26, Tryz.ntmps26
  go_wp2_with fail
  refine hpg.out.mono ?_
  rintro _ w2 ⟨v, rfl, hrow, hb2, -⟩
  obtain ⟨va, vc, rfl⟩ := hrow.shape
  clear hrow hpg
  go_wp2
  go_ret
  exact ⟨by rw [← HD.out]; rfl, hb2⟩

set_option maxHeartbeats 400000 in
theorem pick_any (w : World) (c : Int) (hc : -9223372036854775808 ≤ c ∧ c ≤ 9223372036854775807) :
    Calls Tryz.prog 23 #[.int .i64 c, .int .i64 3] w fun r w' => (∃ p : Int, r = .returned (.int .i64 p) ∧ 0 ≤ p ∧ p < 3) ∧ Below w.heap.size w w' := by
  by_cases h : c < 0
  · have e1 : IntKind.i64.wrap (c + 1) = c + 1 := by rw [IntKind.wrap_i64]; omega
    have e2 : IntKind.i64.wrap (-(c + 1)) = -(c + 1) := by rw [IntKind.wrap_i64]; omega
    have e3 : (0 : Int) ≤ -(c + 1) := by omega
    have e4 : (c + 1).tmod 3 = -((-(c + 1)) % 3) := by rw [← Int.tmod_eq_emod_of_nonneg e3, Int.neg_tmod]; omega
    have e5 := hide e4
    clear e4
    go_enter Tryz.func23, Tryz.ntmps23
    go_wp2
    go_ret
    have e6 := e5.out
    exact ⟨⟨_, rfl, by omega, by omega⟩, Below.refl _ _⟩
  · have h0 : (0 : Int) ≤ c := by omega
    have d0 : decide (c < 0) = false := decide_eq_false h
    go_enter Tryz.func23, Tryz.ntmps23
    go_wp2
    go_ret
    exact ⟨⟨_, rfl, by omega, by omega⟩, Below.refl _ _⟩

end Go.Proofs.YtglbamalagacgaaGreat

namespace Go.Proofs.YtglbamalagacgaaGreat
open Go.RowKit Go.Shelf

attribute [local go_sem] Oper.semAt_some

-- TWO TABLES BESIDE ONE ANOTHER
structure Pair (w : World) (t1 t2 : Nat) (s d : TS) (A1 A2 : List Nat) : Prop where
  T1 : TT w t1 s A1
  T2 : TT w t2 d A2
  dj : ∀ k ∈ A1, k ∉ A2
section
variable {w w' : World} {t1 t2 : Nat} {s d s' d' : TS} {A1 A2 : List Nat} {v : Value} {r : Ending}
theorem Pair.swap (h : Pair w t1 t2 s d A1 A2) : Pair w t2 t1 d s A2 A1 := ⟨h.T2, h.T1, fun k h1 h2 => h.dj k h2 h1⟩
theorem Pair.later (h : Pair w t1 t2 s d A1 A2) (hB : Below w.heap.size w w') : Pair w' t1 t2 s d A1 A2 := ⟨h.T1.later hB, h.T2.later hB, h.dj⟩
theorem Pair.fst (h : Pair w t1 t2 s d A1 A2) (hp : TurnP w t1 A1 v s' r w') : r = .returned v ∧ ∃ A1', Pair w' t1 t2 s' d A1' A2 ∧ NewF w A1 A1' ∧ Only A1 w w' := by
  obtain ⟨A1', p1, p2, p3, p4⟩ := hp
  refine ⟨p1, A1', ⟨p2, h.T2.kept fun k hk => p4.block k (h.T2.lt k hk) fun h1 => h.dj k h1 hk, fun k hk h2 => ?_⟩, p3, p4⟩
  rcases p3 k hk with h1 | h1
  · exact h.dj k h1 h2
  · have := h.T2.lt k h2; omega
theorem Pair.snd (h : Pair w t1 t2 s d A1 A2) (hp : TurnP w t2 A2 v d' r w') : r = .returned v ∧ ∃ A2', Pair w' t1 t2 s d' A1 A2' ∧ NewF w A2 A2' ∧ Only A2 w w' := by
  obtain ⟨h1, A2', h2, h3⟩ := h.swap.fst hp
  exact ⟨h1, A2', h2.swap, h3⟩
end
-- they have the same routes
structure Same (s d : TS) : Prop where
  xs : s.xs = d.xs
  b1 : s.b = 400
  b2 : d.b = 400
theorem apply_alike {s d : TS} (h : Same s d) (hs : s.Ok) (hd : d.Ok) {cs : List Chg} (hl : 16 < cs.length ∨ (tryX cs s.xs 0).2.2 ≠ 0 ∨ (tryX cs s.xs 0).1.length ≤ 36 ∨ ∀ k, needK k (tryX cs s.xs 0).1 ≤ needK k s.xs) :
    (s.apply cs).1 = (d.apply cs).1 ∧ (s.apply cs).2.1 = (d.apply cs).2.1 ∧ (s.apply cs).2.1 ≠ 6 ∧ Same (s.apply cs).2.2 (d.apply cs).2.2 := by
  have hx := h.xs
  have key : ∀ (s : TS), s.Ok → s.b = 400 → (16 < cs.length ∨ (tryX cs s.xs 0).2.2 ≠ 0 ∨ (tryX cs s.xs 0).1.length ≤ 36 ∨ ∀ k, needK k (tryX cs s.xs 0).1 ≤ needK k s.xs) → needK s.k (tryX cs s.xs 0).1 ≤ s.b ∨ needK s.k (tryX cs s.xs 0).1 ≤ needK s.k s.xs ∨ 16 < cs.length ∨ (tryX cs s.xs 0).2.2 ≠ 0 := by
    intro s hs hb hl
    by_cases he : (tryX cs s.xs 0).2.2 = 0
    · obtain ⟨r1, r2, _⟩ := tryX_facts cs s.xs 0 hs.sorted hs.ok he
      rcases hl with h | h | h | h
      · exact .inr (.inr (.inl h))
      · exact absurd he h
      · exact .inl (by rw [hb]; exact need_few r1 r2 h)
      · exact .inr (.inl (h _))
    · exact .inr (.inr (.inr he))
  obtain ⟨a1, a2, a3⟩ := apply_free (key s hs h.b1 hl)
  obtain ⟨c1, c2, c3⟩ := apply_free (key d hd h.b2 (by rw [← hx]; exact hl))
  rw [← hx] at c1 c2 c3
  exact ⟨a1.trans c1.symm, a2.trans c2.symm, by rw [a2]; exact appX_err _ _, a3.trans c3.symm, (apply_b _ _).trans h.b1, (apply_b _ _).trans h.b2⟩
theorem apply_few {s d : TS} (h : Same s d) (hs : s.Ok) (hd : d.Ok) (hf : s.xs.length ≤ 20) (cs : List Chg) : (s.apply cs).1 = (d.apply cs).1 ∧ (s.apply cs).2.1 = (d.apply cs).2.1 ∧ (s.apply cs).2.1 ≠ 6 ∧ Same (s.apply cs).2.2 (d.apply cs).2.2 := by
  refine apply_alike h hs hd ?_
  by_cases h1 : 16 < cs.length
  · exact .inl h1
  · have := tryX_len cs s.xs 0
    exact .inr (.inr (.inl (by omega)))
theorem add_few {s d : TS} (h : Same s d) (hs : s.Ok) (hd : d.Ok) (hf : s.xs.length ≤ 20) (a l n : Int) : (s.add a l n).1 = (d.add a l n).1 ∧ (s.add a l n).1 ≠ 6 ∧ Same (s.add a l n).2 (d.add a l n).2 := by
  unfold TS.add
  by_cases h1 : isPfx a l = false
  · rw [if_pos h1, if_pos h1]; exact ⟨rfl, (fun h => by cases h), h⟩
  rw [if_neg h1, if_neg h1]
  by_cases h2 : ¬ (1 ≤ n ∧ n ≤ 255)
  · rw [if_pos h2, if_pos h2]; exact ⟨rfl, (fun h => by cases h), h⟩
  rw [if_neg h2, if_neg h2]
  obtain ⟨_, q2, q3, q4⟩ := apply_few h hs hd hf [⟨a, l, n⟩]
  exact ⟨q2, q3, q4⟩
theorem del_alike {s d : TS} (h : Same s d) (hs : s.Ok) (hd : d.Ok) (a l : Int) : (s.one a l 0).1 = (d.one a l 0).1 ∧ (s.one a l 0).1 ≠ 6 ∧ Same (s.one a l 0).2 (d.one a l 0).2 := by
  have hl : 16 < [(⟨a, l, 0⟩ : Chg)].length ∨ (tryX [⟨a, l, 0⟩] s.xs 0).2.2 ≠ 0 ∨ (tryX [⟨a, l, 0⟩] s.xs 0).1.length ≤ 36 ∨ ∀ k, needK k (tryX [⟨a, l, 0⟩] s.xs 0).1 ≤ needK k s.xs := by
    rw [tryX_cons]
    split
    · refine .inr (.inr (.inr fun k => ?_))
      show needK k (setE s.xs a l 0) ≤ _
      rw [setE, if_pos rfl]
      exact needK_del hs.sorted hs.ok
    · rename_i h0
      exact .inr (.inl h0)
  obtain ⟨_, q2, q3, q4⟩ := apply_alike h hs hd hl
  exact ⟨q2, q3, q4⟩
theorem get_no6 (xs : List Ent) (a l : Int) : (getR xs a l).2 ≠ 6 := by
  unfold getR
  split
  · exact fun h => by cases h
  split
  · exact fun h => by cases h
  · exact fun h => by cases h
-- behind one of the calls that both answer
def AlkP (w : World) (t1 t2 : Nat) (A1 A2 : List Nat) (r : Ending) (w' : World) : Prop := r = .returned (.bool true) ∧ ∃ s' d' A1' A2', Pair w' t1 t2 s' d' A1' A2' ∧ Same s' d' ∧ NewF w A1 A1' ∧ NewF w A2 A2' ∧ Only (A1 ++ A2) w w'
theorem AlkP.mk2 {w w0 w1 w2 : World} {t1 t2 : Nat} {s' d' : TS} {A1 A2 A1' A2' : List Nat} (hB : Below w.heap.size w w0) (hP : Pair w2 t1 t2 s' d' A1' A2') (hS : Same s' d') (n1 : NewF w0 A1 A1') (o1 : Only A1 w0 w1) (n2 : NewF w1 A2 A2') (o2 : Only A2 w1 w2) : AlkP w t1 t2 A1 A2 (.returned (.bool true)) w2 := by
  have h1 := hB.size
  have h2 := o1.size
  refine ⟨rfl, s', d', A1', A2', hP, hS, fun k hk => (n1 k hk).imp id fun h => by omega, fun k hk => (n2 k hk).imp id fun h => by omega, ?_⟩
  refine (Only.of_below _ hB).trans ((Only.mono o1 fun x hx _ => by simp [hx]).trans (Only.mono o2 fun x hx _ => by simp [hx]) fun x hx => .inl hx) fun x hx => .inl hx
theorem AlkP.back {w w1 w2 : World} {t1 t2 : Nat} {A1 A2 : List Nat} {r : Ending} (h : AlkP w1 t1 t2 A1 A2 r w2) (hB : Below w.heap.size w w1) : AlkP w t1 t2 A1 A2 r w2 := by
  obtain ⟨h1, s', d', A1', A2', h2, h3, h4, h5, h6⟩ := h
  have := hB.size
  exact ⟨h1, s', d', A1', A2', h2, h3, fun k hk => (h4 k hk).imp id fun h => by omega, fun k hk => (h5 k hk).imp id fun h => by omega, (Only.of_below _ hB).trans h6 fun x hx => .inl hx⟩
theorem AlkP.look {w w2 : World} {t1 t2 : Nat} {s d : TS} {A1 A2 : List Nat} (hP : Pair w t1 t2 s d A1 A2) (hS : Same s d) (hB : Below w.heap.size w w2) : AlkP w t1 t2 A1 A2 (.returned (.bool true)) w2 :=
  ⟨rfl, s, d, A1, A2, hP.later hB, hS, NewF.refl _ _, NewF.refl _ _, Only.of_below _ hB⟩

end Go.Proofs.YtglbamalagacgaaGreat

import Derived.Test.YtglbamalagacgaaGreatE2
import Derived.Test.YtglbamalagacgaaGreatF0
import Derived.BigQuiet
namespace Go.Proofs.YtglbamalagacgaaGreat
open Go.RowKit Go.Shelf

-- THE ROUTES FROM A RANK ON
abbrev rkE (x : Ent) : Nat := (9 * x.a + x.l).toNat
def frR (xs : List Ent) (k : Nat) : List Ent := xs.filter fun x => decide (k ≤ rkE x)
theorem from_fr {xs : List Ent} {a l : Int} (hk : ∀ x ∈ xs, okE x) (hp : isPfx a l = true) : fromE xs a l = frR xs (9 * a + l).toNat := by
  unfold fromE frR
  refine List.filter_congr fun x hx => ?_
  have q1 := (isPfx_iff _ _).1 (hk x hx).1
  have q2 := (isPfx_iff _ _).1 hp
  unfold klt rkE
  rw [← decide_not]
  refine decide_eq_decide.2 ?_
  omega
theorem frR_zero {xs : List Ent} : frR xs 0 = xs := List.filter_eq_self.2 fun x _ => by simp
theorem Tie.at {rs : Nat → Int} {xs : List Ent} (ht : Tie rs xs) {k : Nat} (h : rs k ≠ 0) : ∃ x ∈ xs, rkE x = k := by
  obtain ⟨a, l, hp, he⟩ : ∃ a l, isPfx a l = true ∧ (9 * a + l).toNat = k := by
    by_cases h1 : ∃ a l, isPfx a l = true ∧ (9 * a + l).toNat = k
    · exact h1
    · exact absurd (ht.z k fun a l hp he => h1 ⟨a, l, hp, he⟩) h
  rw [← he, ht.val a l hp] at h
  cases hg : getE xs a l with
  | none => rw [hg] at h; exact absurd rfl h
  | some v =>
    obtain ⟨y, hy, e1, e2, _⟩ := getE_memS hg
    exact ⟨y, hy, by unfold rkE; rw [e1, e2]; exact he⟩
theorem Tie.on {rs : Nat → Int} {xs : List Ent} (ht : Tie rs xs) (hs : Sorted xs) (hk : ∀ x ∈ xs, okE x) {x : Ent} (hx : x ∈ xs) : rs (rkE x) = x.n ∧ x.n ≠ 0 ∧ rkE x < 2304 ∧ isPfx x.a x.l = true := by
  have q1 := (isPfx_iff _ _).1 (hk x hx).1
  refine ⟨?_, by have := (hk x hx).2.1; omega, by unfold rkE; omega, (hk x hx).1⟩
  unfold rkE
  rw [ht.val x.a x.l (hk x hx).1, getE_of_memS hs hx]
  rfl
theorem frR_skip {xs : List Ent} {k j : Nat} (hkj : k ≤ j) (h : ∀ x ∈ xs, ¬ (k ≤ rkE x ∧ rkE x < j)) : frR xs j = frR xs k := by
  unfold frR
  refine List.filter_congr fun x hx => decide_eq_decide.2 ?_
  have := h x hx
  omega
theorem frR_next {rs : Nat → Int} {xs : List Ent} (ht : Tie rs xs) (hs : Sorted xs) (hk : ∀ x ∈ xs, okE x) {k : Nat} (h : rs k = 0) : frR xs (k + 1) = frR xs k :=
  frR_skip (Nat.le_succ k) fun x hx h1 => by
    obtain ⟨h2, h3, _⟩ := ht.on hs hk hx
    have : rkE x = k := by omega
    rw [this] at h2
    omega
theorem frR_on {xs : List Ent} (hk : ∀ x ∈ xs, okE x) {k j : Nat} (hkj : k ≤ j) (h : ∀ a l, isPfx a l = true → ¬ (k ≤ (9 * a + l).toNat ∧ (9 * a + l).toNat < j)) : frR xs j = frR xs k :=
  frR_skip hkj fun x hx => h x.a x.l (hk x hx).1
theorem frR_nil {rs : Nat → Int} {xs : List Ent} (ht : Tie rs xs) {k : Nat} (h : frR xs k = []) (j : Nat) (hj : k ≤ j) : rs j = 0 := by
  by_cases h0 : rs j = 0
  · exact h0
  · exfalso
    obtain ⟨x, hx, he⟩ := ht.at h0
    have : x ∈ frR xs k := List.mem_filter.2 ⟨hx, decide_eq_true (by omega)⟩
    rw [h] at this
    cases this
theorem frR_pw {xs : List Ent} (hs : Sorted xs) (hk : ∀ x ∈ xs, okE x) (k : Nat) : (frR xs k).Pairwise fun x y => rkE x < rkE y := by
  have := ranks_lt hs hk
  unfold ranks at this
  rw [List.pairwise_map] at this
  exact List.Pairwise.filter _ this
theorem frR_head {rs : Nat → Int} {xs ys : List Ent} {x : Ent} (ht : Tie rs xs) (hs : Sorted xs) (hk : ∀ x ∈ xs, okE x) {k : Nat} (h : frR xs k = x :: ys) : x ∈ xs ∧ k ≤ rkE x ∧ (∀ j, k ≤ j → j < rkE x → rs j = 0) ∧ frR xs (rkE x + 1) = ys := by
  have hx : x ∈ frR xs k := by rw [h]; simp
  obtain ⟨h1, h2⟩ := List.mem_filter.1 hx
  have h2 : k ≤ rkE x := by simpa using h2
  have hpw := frR_pw hs hk k
  rw [h] at hpw
  obtain ⟨p1, p2⟩ := List.pairwise_cons.1 hpw
  refine ⟨h1, h2, fun j hj hjx => ?_, ?_⟩
  · by_cases h0 : rs j = 0
    · exact h0
    · exfalso
      obtain ⟨y, hy, he⟩ := ht.at h0
      have hyf : y ∈ frR xs k := List.mem_filter.2 ⟨hy, decide_eq_true (by omega)⟩
      rw [h] at hyf
      rcases List.mem_cons.1 hyf with rfl | hyf
      · omega
      · have := p1 y hyf; omega
  · have e : frR xs (rkE x + 1) = (frR xs k).filter fun y => decide (rkE x + 1 ≤ rkE y) := by
      unfold frR
      rw [List.filter_filter]
      refine List.filter_congr fun y _ => ?_
      rw [← Bool.decide_and]
      refine decide_eq_decide.2 ?_
      omega
    rw [e, h, List.filter_cons, if_neg (by simp)]
    exact List.filter_eq_self.2 fun y hy => decide_eq_true (p1 y hy)
theorem pfx_of_nat {a l : Int} (h : isPfx a l = true) : ∃ (b m : Nat), a = b ∧ l = m ∧ b < 256 ∧ m ≤ 8 ∧ (9 * a + l).toNat = 9 * b + m := by
  have := (isPfx_iff _ _).1 h
  exact ⟨a.toNat, l.toNat, by omega, by omega, by omega, by omega, by omega⟩

-- the first rank of a prefix, from a rank on
def okR (k : Nat) : Bool := isPfx ((k / 9 : Nat) : Int) ((k % 9 : Nat) : Int)
theorem okR_int (k : Nat) : okR k = isPfx ((k : Int) / 9) ((k : Int) % 9) := by
  unfold okR
  rw [Int.natCast_ediv, Int.natCast_emod]
  rfl
theorem okR_of {a l : Int} (h : isPfx a l = true) : okR (9 * a + l).toNat = true := by
  obtain ⟨b, m, rfl, rfl, hb, hm, he⟩ := pfx_of_nat h
  unfold okR
  rw [he, show (9 * b + m) / 9 = b by omega, show (9 * b + m) % 9 = m by omega]
  exact h
theorem okR_rank {k : Nat} (h : okR k = true) : (9 * ((k / 9 : Nat) : Int) + ((k % 9 : Nat) : Int)).toNat = k ∧ isPfx ((k / 9 : Nat) : Int) ((k % 9 : Nat) : Int) = true := ⟨by omega, h⟩
-- onward's answer
def onR (k : Nat) (r : Int) : Prop := (r = -1 ∧ ∀ j, k ≤ j → j < 2304 → okR j = false) ∨ ∃ j : Nat, r = j ∧ k ≤ j ∧ j < 2304 ∧ okR j = true ∧ ∀ i, k ≤ i → i < j → okR i = false
theorem onR_fr {xs : List Ent} (hk : ∀ x ∈ xs, okE x) {k j : Nat} (hkj : k ≤ j) (h : ∀ i, k ≤ i → i < j → okR i = false) : frR xs j = frR xs k :=
  frR_on hk hkj fun a l hp hh => by
    have := okR_of hp
    rw [h _ hh.1 hh.2] at this
    cases this
theorem okR_zero : okR 0 = true := by decide

end Go.Proofs.YtglbamalagacgaaGreat

namespace Go.Proofs.YtglbamalagacgaaGreat
open Go.RowKit Go.Shelf

attribute [local go_sem] Oper.semAt_some

set_option maxHeartbeats 1000000 in
theorem onward_any (k : Nat) (hk : k ≤ 2304) (w : World) :
    Calls Tryz.prog 44 #[.int .i64 (k : Int)] w fun r w' => (∃ v, r = .returned (.int .i64 v) ∧ onR k v) ∧ Below w.heap.size w w' := by
  go_enter Tryz.func44, Tryz.ntmps44
  go_wp2
  go_loopw [0] (fun sl wr => ∃ j : Nat, k ≤ j ∧ j ≤ 2304 ∧ sl = .int .i64 (j : Int) ∧ Hid (∀ i, k ≤ i → i < j → okR i = false) ∧ Hid (Below w.heap.size w wr)) (fun s _ => 2304 - (intOf s).toNat)
  case atStart => exact ⟨k, Nat.le_refl _, hk, rfl, fun i h1 h2 => by omega, Below.refl _ _⟩
  case round =>
    obtain ⟨j, hj, hj2, rfl, HZ, HB⟩ := hrel
    by_cases hlt : j < 2304
    · have j0 : (0 : Int) ≤ (j : Int) := by omega
      have j1 : (j : Int) < 2304 := by omega
      have hw1 : IntKind.i64.wrap ((j : Int) + 1) = (j : Int) + 1 := by rw [IntKind.wrap_i64]; omega
      have hw2 : IntKind.i64.wrap ((j : Int) / 9) = (j : Int) / 9 := by rw [IntKind.wrap_i64]; omega
      have hpr := hide (fun W => proper_any ((j : Int) / 9) ((j : Int) % 9) W)
      cases ho : okR j with
      | true =>
        have ho' : isPfx ((j : Int) / 9) ((j : Int) % 9) = true := by rw [← okR_int]; exact ho
        rw [ho'] at hpr
        have fin := hide (show ∃ v, Ending.returned (.int .i64 (j : Int)) = .returned (.int .i64 v) ∧ onR k v from ⟨j, rfl, .inr ⟨j, rfl, hj, hlt, ho, HZ.out⟩⟩)
        clear ho ho'
        go_wp2_with fail
        refine (hpr.out _).mono ?_
        rintro _ w2 ⟨rfl, rfl⟩
        go_wp2
        go_ret
        exact ⟨fin.out, HB.out⟩
      | false =>
        have ho' : isPfx ((j : Int) / 9) ((j : Int) % 9) = false := by rw [← okR_int]; exact ho
        rw [ho'] at hpr
        have next := hide (show ∃ j' : Nat, k ≤ j' ∧ j' ≤ 2304 ∧ Value.int .i64 ((j : Int) + 1) = .int .i64 (j' : Int) ∧ Hid (∀ i, k ≤ i → i < j' → okR i = false) ∧ Hid (Below w.heap.size w wr) from ⟨j + 1, by omega, by omega, by simp, fun i h1 h2 => by
          rcases Nat.lt_or_ge i j with h3 | h3
          · exact HZ.out i h1 h3
          · obtain rfl : i = j := by omega
            exact ho, HB⟩)
        clear ho ho'
        go_wp2_with fail
        refine (hpr.out _).mono ?_
        rintro _ w2 ⟨rfl, rfl⟩
        go_wp2
        exact ⟨next.out, by simp [intOf]; omega⟩
    · obtain rfl : j = 2304 := by omega
      have fin := hide (show ∃ v, Ending.returned (.int .i64 (-1)) = .returned (.int .i64 v) ∧ onR k v from ⟨-1, rfl, .inl ⟨rfl, fun i h1 h2 => HZ.out i h1 h2⟩⟩)
      go_wp2
      go_ret
      exact ⟨fin.out, HB.out⟩

end Go.Proofs.YtglbamalagacgaaGreat

namespace Go.Proofs.YtglbamalagacgaaGreat
open Go.RowKit Go.Shelf

theorem rteC_at {ys : List Ent} {j : Nat} {x : Ent} (h : ys[j]? = some x) : (rteC ys)[j * 3]? = some (.int .i64 x.a) ∧ (rteC ys)[j * 3 + 1]? = some (.int .i64 x.l) ∧ (rteC ys)[j * 3 + 2]? = some (.int .i64 x.n) := by
  induction ys generalizing j with
  | nil => simp at h
  | cons y ys ih =>
    have e : rteC (y :: ys) = .int .i64 y.a :: .int .i64 y.l :: .int .i64 y.n :: rteC ys := by simp [rteC, rcell]
    rw [e]
    cases j with
    | zero => simp at h; subst h; simp
    | succ j =>
      have := ih (j := j) (by simpa using h)
      rw [show (j + 1) * 3 = j * 3 + 3 by omega]
      simpa using this
theorem rowG_rte {w : World} {va : Option Addr} {vc : Nat} {ys : List Ent} {j : Nat} {x : Ent} (h : RowG 90 3 w (.slice va ys.length vc) ys.length (rteC ys)) (hj : ys[j]? = some x) :
    ∃ gv, va = some ⟨gv, 0, none⟩ ∧ gv < w.heap.size ∧ w.cell? ⟨gv, j * 3, none⟩ = some (.int .i64 x.a) ∧ w.cell? ⟨gv, j * 3 + 1, none⟩ = some (.int .i64 x.l) ∧ w.cell? ⟨gv, j * 3 + 2, none⟩ = some (.int .i64 x.n) := by
  obtain ⟨a0, a1, a2⟩ := rteC_at hj
  have hlt := (List.getElem?_eq_some_iff.1 hj).1
  rcases h.2 with ⟨_, h2⟩ | ⟨g, cap, sp, he, hg, _⟩
  · omega
  · cases he
    exact ⟨g, rfl, (Array.getElem?_eq_some_iff.1 hg).1, h.cell a0, h.cell a1, h.cell a2⟩
theorem take_get {zs : List Ent} {n j : Nat} {x : Ent} (h : (zs.take n)[j]? = some x) : zs.drop j = x :: zs.drop (j + 1) := by
  obtain ⟨h1, h2⟩ := List.getElem?_eq_some_iff.1 h
  have h3 : j < zs.length := by rw [List.length_take] at h1; omega
  rw [List.drop_eq_getElem_cons h3]
  congr 1
  rw [← h2, List.getElem_take]
-- the answers that right compares
theorem look_none {xs : List Ent} {a : Int} (h0 : 0 ≤ a) (h1 : a < 256) (h : blN xs a 9 = none) : lookR xs a = (⟨0, 0, 0⟩, 5) := by
  unfold lookR bestE
  rw [if_neg (by omega), best_bl, h]
  rfl
theorem look_some {xs : List Ent} {a : Int} {m : Nat} (h0 : 0 ≤ a) (h1 : a < 256) (h : blN xs a 9 = some m) : lookR xs a = (⟨cov a m, m, orZ (getE xs (cov a m) m)⟩, 0) := by
  unfold lookR bestE
  rw [if_neg (by omega), best_bl, h]
  rfl

end Go.Proofs.YtglbamalagacgaaGreat

import Derived.Test.YtglbamalagacgaaGreatK1
import Derived.Test.YtglbamalagacgaaGreatY1
import Derived.Test.YtglbamalagacgaaGreatY2
namespace Go.Proofs.YtglbamalagacgaaGreat
open Go.RowKit Go.Shelf
theorem cov_mul {b : Int} {k : Nat} (h0 : 0 <= b) (h1 : b < 256) (hk : k <= 8) : cov b k % wid k = 0 := ((isPfx_iff _ _).1 (cov_pfx h0 h1 hk)).2.2.2.2
theorem cov_at {a b : Int} {k : Nat} (ha : a % wid k = 0) : (a <= b /\ b < a + wid k) ↔ cov b k = a := by
 have hw := (wid_bd (k : Int)).1
 have hb := Int.emod_nonneg b (show wid (k : Int) ≠ 0 by omega)
 have hb2 := Int.emod_lt_of_pos b hw
 have e1 := Int.mul_ediv_add_emod a (wid k)
 have e2 := Int.mul_ediv_add_emod b (wid k)
 unfold cov
 rw [ha] at e1
 constructor
 ·rintro ⟨h1, h2⟩
  have h3 : a / wid k = b / wid k := by
   apply Int.le_antisymm
   ·exact Int.ediv_le_ediv hw h1
   ·have h4 : b / wid k < (a + wid k) / wid k := by
     rw [Int.add_ediv_of_dvd_right (Int.dvd_refl _), Int.ediv_self (by omega)]
     by_cases h5 : b / wid k < a / wid k + 1
     ·exact h5
     ·exfalso
      have h6 : a / wid k + 1 <= b / wid k := by omega
      have h7 : wid k * (a / wid k + 1) <= wid k * (b / wid k) := Int.mul_le_mul_of_nonneg_left h6 (by omega)
      rw [Int.mul_add] at h7
      omega
    rw [Int.add_ediv_of_dvd_right (Int.dvd_refl _), Int.ediv_self (by omega)] at h4
    omega
  rw [h3] at e1
  omega
 ·intro h; omega
theorem mul_lt_step {a b : Int} {k : Nat} (ha : a % wid k = 0) (hb : b % wid k = 0) : b < a + wid k ↔ b < a ∨ b = a := by
 have hw := (wid_bd (k : Int)).1
 constructor
 ·intro h
  by_cases h1 : b < a
  ·exact .inl h1
  ·have := (cov_at (a := a) (b := b) ha).1 ⟨by omega, h⟩
   unfold cov at this
   rw [hb] at this
   exact .inr (by omega)
 ·rintro (h | h) <;> omega
def prc (xs : List Ent) (k : Nat) (a : Int) (c : Nat) : Prop := ∃ x ∈ xs, ∃ j : Nat, (j : Int) <= x.l /\ c = pcn x.a.toNat j /\ (j < k ∨ (j = k /\ cov x.a j < a))
theorem prc_start {xs : List Ent} (hk : ∀ x ∈ xs, okE x) (c : Nat) : ¬ prc xs 0 0 c := by
 rintro ⟨x, hx, j, _, _, h | ⟨rfl, h⟩⟩
 ·omega
 ·have hp := (isPfx_iff _ _).1 (hk x hx).1
  have := (cov_bd x.a ((0 : Nat) : Int) (by omega)).1
  omega
theorem prc_level {xs : List Ent} (hk : ∀ x ∈ xs, okE x) {k : Nat} (c : Nat) : prc xs k 256 c ↔ prc xs (k + 1) 0 c := by
 unfold prc
 refine exists_congr fun x => and_congr_right fun hx => exists_congr fun j => and_congr_right fun hj => and_congr_right fun _ => ?_
 have hp := (isPfx_iff _ _).1 (hk x hx).1
 have hb := cov_bd x.a j (by omega)
 constructor
 ·rintro (h | ⟨h, _⟩)
  ·exact .inl (by omega)
  ·exact .inl (by omega)
 ·rintro (h | ⟨_, h⟩)
  ·rcases Nat.lt_or_ge j k with h1 | h1
   ·exact .inl h1
   ·exact .inr ⟨by omega, by omega⟩
  ·omega
theorem pcn_covI {b : Int} {k : Nat} (h0 : 0 <= b) (h1 : b < 256) (hk : k <= 8) : pcn b.toNat k = pcE (cov b k) k := by
 unfold pcE
 rw [Int.toNat_natCast, pcn_cov h0 h1 hk]
theorem pcn_same {a b : Int} {k j : Nat} (a0 : 0 <= a) (a1 : a < 256) (b0 : 0 <= b) (b1 : b < 256) (hk : k <= 8) (hj : j <= 8) : pcn a.toNat k = pcn b.toNat j ↔ k = j /\ cov a k = cov b j := by
 constructor
 ·intro h
  rw [pcn_covI a0 a1 hk, pcn_covI b0 b1 hj] at h
  have := pcE_inj (cov_pfx a0 a1 hk) (cov_pfx b0 b1 hj) h
  omega
 ·rintro ⟨rfl, h⟩
  rw [pcn_covI a0 a1 hk, pcn_covI b0 b1 hk, h]
theorem cov_self {a : Int} {k : Nat} (ha : a % wid k = 0) : cov a k = a := by unfold cov; omega
theorem prc_fresh {xs : List Ent} (hk : ∀ x ∈ xs, okE x) {k : Nat} {a : Int} (a0 : 0 <= a) (a1 : a < 256) (hk8 : k <= 8) (ha : a % wid k = 0) : ¬ prc xs k a (pcn a.toNat k) := by
 rintro ⟨x, hx, j, hj, he, h⟩
 have hp := (isPfx_iff _ _).1 (hk x hx).1
 obtain ⟨e1, e2⟩ := (pcn_same a0 a1 (by omega) (by omega) hk8 (by omega)).1 he
 rw [cov_self ha] at e2
 rcases h with h | ⟨_, h⟩
 ·omega
 ·rw [<- e2] at h; omega
theorem prc_yes {xs : List Ent} (hk : ∀ x ∈ xs, okE x) {k : Nat} {a : Int} (a0 : 0 <= a) (a1 : a < 256) (hk8 : k <= 8) (ha : a % wid k = 0) {y : Ent} (hy : y ∈ xs) (hyl : (k : Int) <= y.l) (hya : cov y.a k = a) (c : Nat) : prc xs k (a + wid k) c ↔ prc xs k a c ∨ c = pcn a.toNat k := by
 constructor
 ·rintro ⟨x, hx, j, hj, he, h⟩
  have hp := (isPfx_iff _ _).1 (hk x hx).1
  rcases h with h | ⟨rfl, h⟩
  ·exact .inl ⟨x, hx, j, hj, he, .inl h⟩
  ·rcases (mul_lt_step ha (cov_mul (by omega) (by omega) (by omega))).1 h with h1 | h1
   ·exact .inl ⟨x, hx, j, hj, he, .inr ⟨rfl, h1⟩⟩
   ·refine .inr ?_
    rw [he]
    exact (pcn_same (by omega) (by omega) a0 a1 hk8 hk8).2 ⟨rfl, by rw [h1, cov_self ha]⟩
 ·rintro (⟨x, hx, j, hj, he, h⟩ | rfl)
  ·have hw := (wid_bd (k : Int)).1
   exact ⟨x, hx, j, hj, he, h.imp id fun h => ⟨h.1, by omega⟩⟩
  ·have hp := (isPfx_iff _ _).1 (hk y hy).1
   have hw := (wid_bd (k : Int)).1
   exact ⟨y, hy, k, hyl, (pcn_same a0 a1 (by omega) (by omega) hk8 hk8).2 ⟨rfl, by rw [hya, cov_self ha]⟩, .inr ⟨rfl, by omega⟩⟩
theorem prc_no {xs : List Ent} (hk : ∀ x ∈ xs, okE x) {k : Nat} {a : Int} (ha : a % wid k = 0) (hn : ∀ y ∈ xs, (k : Int) <= y.l -> ¬ cov y.a k = a) (c : Nat) : prc xs k (a + wid k) c ↔ prc xs k a c := by
 have hw := (wid_bd (k : Int)).1
 constructor
 ·rintro ⟨x, hx, j, hj, he, h⟩
  have hp := (isPfx_iff _ _).1 (hk x hx).1
  rcases h with h | ⟨rfl, h⟩
  ·exact ⟨x, hx, j, hj, he, .inl h⟩
  ·rcases (mul_lt_step ha (cov_mul (by omega) (by omega) (by omega))).1 h with h1 | h1
   ·exact ⟨x, hx, j, hj, he, .inr ⟨rfl, h1⟩⟩
   ·exact absurd h1 (hn x hx hj)
 ·rintro ⟨x, hx, j, hj, he, h⟩
  exact ⟨x, hx, j, hj, he, h.imp id fun h => ⟨h.1, by omega⟩⟩
theorem prc_all {xs : List Ent} (hk : ∀ x ∈ xs, okE x) (hne : xs ≠ []) (c : Nat) : prc xs 9 0 c ↔ plc xs 2304 c := by
 unfold prc plc
 constructor
 ·rintro ⟨x, hx, j, hj, he, _⟩
  have hp := (isPfx_iff _ _).1 (hk x hx).1
  exact .inr ⟨x, hx, by unfold rkE; omega, j, hj, he⟩
 ·rintro (rfl | ⟨x, hx, _, j, hj, he⟩)
  ·obtain ⟨x, hx⟩ := List.exists_mem_of_ne_nil xs hne
   have hp := (isPfx_iff _ _).1 (hk x hx).1
   exact ⟨x, hx, 0, by omega, (pcn_zero (by omega)).symm, .inl (by omega)⟩
  ·have hp := (isPfx_iff _ _).1 (hk x hx).1
   exact ⟨x, hx, j, hj, he, .inl (by omega)⟩
theorem prc_cnt {xs : List Ent} (hk : ∀ x ∈ xs, okE x) {S : Nat -> Bool} (h : SetOf S (prc xs 9 0)) (hne : xs ≠ []) : (cntA S 8 1 : Int) = trieN xs := cnt_trie hk (h.congr (prc_all hk hne))
theorem trieN_nil : trieN [] = 1 := by decide
theorem best_same {ls xs : List Ent} (h : Rep ls xs) (hs : Sorted xs) (hk : ∀ x ∈ xs, okE x) {a a' : Int} (h0 : 0 <= a) (h0' : 0 <= a') {b b' : Int} (hb : BestI ls a ls.length b) (hb' : BestI ls a' ls.length b') : b = b' ↔ sameR xs a a' := by
 rw [<- rt_same hk]
 unfold rt
 have hpos : ∀ {a : Int} {y : Ent} {k : Nat}, ls[k]? = some y -> bestE xs a = some y -> y ≠ ⟨0, 0, 0⟩ := fun hy _ e => by
  have := (hk _ ((h.mem _).1 (List.mem_of_getElem? hy))).2.1
  rw [e] at this
  exact absurd this (by decide)
 rcases h.best hs hk h0 hb with ⟨rfl, e1⟩ | ⟨k, y, rfl, hkl, hy, e1⟩
 ·rcases h.best hs hk h0' hb' with ⟨rfl, e2⟩ | ⟨k', y', rfl, hkl', hy', e2⟩
  ·rw [e1, e2]; simp
  ·rw [e1, e2]
   have := hpos hy' e2
   constructor
   ·intro e; omega
   ·intro e; exact absurd e.symm this
 ·rcases h.best hs hk h0' hb' with ⟨rfl, e2⟩ | ⟨k', y', rfl, hkl', hy', e2⟩
  ·rw [e1, e2]
   have := hpos hy e1
   constructor
   ·intro e; omega
   ·intro e; exact absurd e this
  ·rw [e1, e2]
   constructor
   ·intro e
    have : k = k' := by omega
    subst this
    rw [hy] at hy'
    cases hy'
    rfl
   ·intro e
    have e' : y = y' := e
    subst e'
    have hd := h.dist
    rcases Nat.lt_trichotomy k k' with h1 | h1 | h1
    ·exfalso
     have := (List.pairwise_iff_getElem.1 hd) k k' hkl hkl' h1
     obtain ⟨_, g1⟩ := List.getElem?_eq_some_iff.1 hy
     obtain ⟨_, g2⟩ := List.getElem?_eq_some_iff.1 hy'
     rw [g1, g2] at this
     exact this ⟨rfl, rfl⟩
    ·omega
    ·exfalso
     have := (List.pairwise_iff_getElem.1 hd) k' k hkl' hkl h1
     obtain ⟨_, g1⟩ := List.getElem?_eq_some_iff.1 hy
     obtain ⟨_, g2⟩ := List.getElem?_eq_some_iff.1 hy'
     rw [g1, g2] at this
     exact this ⟨rfl, rfl⟩
end Go.Proofs.YtglbamalagacgaaGreat

namespace Go.Proofs.YtglbamalagacgaaGreat
open Go.RowKit Go.Shelf
attribute [local go_sem] Oper.semAt_some
set_option maxRecDepth 4000 in
set_option maxHeartbeats 1000000 in
theorem cells3_r (w : World) (v : Value) (ls xs : List Ent) (hr : RowU w v ls) (hl : ls.length <= 1000000) (h : Rep ls xs) (hs : Sorted xs) (hk : ∀ x ∈ xs, okE x) :
  Calls Tryz.prog 102 #[.int .i64 3, v] w fun r w' => r = .returned (.int .i64 (needK 3 xs)) /\ Below w.heap.size w w' := by
 have hlen := h.len hs
 have hbst := hide (fun (W : World) (hW : Below w.heap.size w W) (a : Int) => best_r W v ls a (hr.kept fun g hg => hW.block g (hr.lt g hg)) hl fun x hx => hk x ((h.mem x).1 hx))
 obtain ⟨va, vc, rfl⟩ := hr.shape
 have HSM := hide (fun (a : Nat) (b b' : Int) (h1 : 1 <= a) (hb : BestI ls ((a : Int) - 1) ls.length b) (hb' : BestI ls (a : Int) ls.length b') => best_same h hs hk (by omega) (by omega) hb hb')
 have HSU := hide (fun (a : Nat) (h1 : 1 <= a) (h2 : a < 256) => str_succ hk h1 h2)
 have HN := hide (show (ls.length : Int) + ((strN xs 256).length : Nat) = needK 3 xs by rw [hlen]; rfl)
 have hbI : ∀ {a : Int} {b : Int}, BestI ls a ls.length b -> -1 <= b := fun hb => by
  rcases hb with ⟨rfl, _⟩ | ⟨k, y, rfl, _⟩ <;> omega
 have HBI := hide (fun (a b : Int) (hb : BestI ls a ls.length b) => hbI hb)
 have hxl : ls.length <= 2304 := by rw [hlen]; exact ok_len hs hk
 clear hr h hs hk hbI hlen
 go_enter Tryz.func102, Tryz.ntmps102
 go_wp2
 go_loopw [5, 9, 10] (fun s5 s9 s10 wr => ∃ (a : Nat) (b : Int), a <= 256 /\ s5 = .int .i64 ((strN xs a).length : Nat) /\ s9 = .int .i64 b /\ s10 = .int .i64 (a : Int) /\ Hid ((a = 0 /\ b = -2) ∨ (1 <= a /\ BestI ls ((a : Int) - 1) ls.length b)) /\ Hid (Below w.heap.size w wr)) (fun _ _ s10 _ => 256 - (intOf s10).toNat)
 case atStart => exact ⟨0, -2, by omega, rfl, rfl, rfl, hide (.inl ⟨rfl, rfl⟩), hide (Below.refl _ _)⟩
 case round =>
  obtain ⟨a, b, ha, rfl, rfl, rfl, HI, HB⟩ := hrel
  by_cases hlt : a < 256
  ·have hcall := hide (hbst.out wr HB.out (a : Int))
   have j1 : (a : Int) < 256 := by omega
   have hw1 : IntKind.i64.wrap ((a : Int) + 1) = (a : Int) + 1 := by rw [IntKind.wrap_i64]; omega
   have hsl : (strN xs a).length <= a := strN_len xs a
   have hw3 : IntKind.i64.wrap (((strN xs a).length : Int) + 1) = ((strN xs a).length : Int) + 1 := by rw [IntKind.wrap_i64]; omega
   go_wp2_with fail
   refine hcall.out.mono ?_
   rintro _ w2 ⟨⟨b', rfl, hb'⟩, hb2⟩
   have HB2 := hide (HB.out.trans (hb2.mono HB.out.size))
   have hi2 : BestI ls (((a + 1 : Nat) : Int) - 1) ls.length b' := by rw [show ((a + 1 : Nat) : Int) - 1 = a by omega]; exact hb'
   by_cases hne : b' = b
   ·have heq : (strN xs (a + 1)).length = (strN xs a).length := by
     rcases HI.out with ⟨rfl, rfl⟩ | ⟨h1, h2⟩
     ·have := HBI.out _ _ hb'; omega
     ·exact (HSU.out a h1 hlt).1 ((HSM.out a b b' h1 h2 hb').1 hne.symm)
    have next := hide (show ∃ (a' : Nat) (c : Int), a' <= 256 /\ Value.int .i64 ((strN xs a).length : Nat) = .int .i64 ((strN xs a').length : Nat) /\ Value.int .i64 b = .int .i64 c /\ Value.int .i64 ((a : Int) + 1) = .int .i64 (a' : Int) /\ Hid ((a' = 0 /\ c = -2) ∨ (1 <= a' /\ BestI ls ((a' : Int) - 1) ls.length c)) /\ Hid (Below w.heap.size w w2) from ⟨a + 1, b', by omega, by rw [heq], by rw [hne], by simp, hide (.inr ⟨by omega, hi2⟩), HB2⟩)
    subst hne
    clear hcall hb2 hb' hi2 heq hsl
    go_wp2
    exact ⟨next.out, by simp [intOf]; omega⟩
   ·have heq : (strN xs (a + 1)).length = (strN xs a).length + 1 := by
     rcases HI.out with ⟨rfl, rfl⟩ | ⟨h1, h2⟩
     ·rw [str_one]; rfl
     ·exact (HSU.out a h1 hlt).2 fun hsm => hne ((HSM.out a b b' h1 h2 hb').2 hsm).symm
    have dn : (b' != b) = true := by simpa using hne
    have next := hide (show ∃ (a' : Nat) (c : Int), a' <= 256 /\ Value.int .i64 (((strN xs a).length : Int) + 1) = .int .i64 ((strN xs a').length : Nat) /\ Value.int .i64 b' = .int .i64 c /\ Value.int .i64 ((a : Int) + 1) = .int .i64 (a' : Int) /\ Hid ((a' = 0 /\ c = -2) ∨ (1 <= a' /\ BestI ls ((a' : Int) - 1) ls.length c)) /\ Hid (Below w.heap.size w w2) from ⟨a + 1, b', by omega, by rw [heq]; simp, rfl, by simp, hide (.inr ⟨by omega, hi2⟩), HB2⟩)
    clear hcall hb2 hb' hi2 heq hsl hne
    go_wp2
    exact ⟨next.out, by simp [intOf]; omega⟩
  ·obtain rfl : a = 256 := by omega
   have hsl : (strN xs 256).length <= 256 := strN_len xs 256
   have hw5 : IntKind.i64.wrap ((ls.length : Int) + ((strN xs 256).length : Nat)) = (ls.length : Int) + ((strN xs 256).length : Nat) := by rw [IntKind.wrap_i64]; omega
   go_wp2
   go_ret
   exact ⟨congrArg (fun n => Ending.returned (.int .i64 n)) HN.out, HB.out⟩
end Go.Proofs.YtglbamalagacgaaGreat

namespace Go.Proofs.YtglbamalagacgaaGreat
open Go.RowKit Go.Shelf
attribute [local go_sem] Oper.semAt_some
theorem step_in {a : Nat} {k : Nat} (h8 : k <= 8) (ha : (a : Int) % wid k = 0) (hlt : a < 256) : ∃ b : Nat, (b : Int) = (a : Int) + wid k /\ b <= 256 /\ (b : Int) % wid k = 0 /\ a < b := by
 have e1 : k = 0 ∨ k = 1 ∨ k = 2 ∨ k = 3 ∨ k = 4 ∨ k = 5 ∨ k = 6 ∨ k = 7 ∨ k = 8 := by omega
 refine ⟨a + (wid k).toNat, ?_⟩
 rcases e1 with rfl | rfl | rfl | rfl | rfl | rfl | rfl | rfl | rfl <;> simp [wid] at ha ⊢ <;> omega
set_option maxRecDepth 8000 in
set_option maxHeartbeats 4000000 in
theorem cells2_r (w : World) (v : Value) (ls xs : List Ent) (hr : RowU w v ls) (hl : ls.length <= 1000000) (h : Rep ls xs) (hs : Sorted xs) (hk : ∀ x ∈ xs, okE x) :
  Calls Tryz.prog 102 #[.int .i64 2, v] w fun r w' => r = .returned (.int .i64 (needK 2 xs)) /\ Below w.heap.size w w' := by
 have hlen := h.len hs
 obtain ⟨va, vc, rfl⟩ := hr.shape
 have HR := hide hr
 have HM := hide h.mem
 have HK := hide hk
 have HN := hide (show needK 2 xs = trieN xs from rfl)
 have HE := hide (show ls.length = 0 -> trieN xs = 1 from fun h0 => by
  have : xs = [] := List.eq_nil_of_length_eq_zero (by omega)
  rw [this]; exact trieN_nil)
 have HF := hide (show ∀ S : Nat -> Bool, SetOf S (prc xs 9 0) -> ¬ ls.length = 0 -> (cntA S 8 1 : Int) = trieN xs from fun S hS h0 => prc_cnt hk hS fun e => h0 (by rw [hlen, e]; rfl))
 clear hr h hs hk hlen
 go_enter Tryz.func102, Tryz.ntmps102
 go_wp2
 go_loopw [5, 6] (fun s5 s6 wr => ∃ (k : Nat) (S : Nat -> Bool), k <= 9 /\ s5 = .int .i64 (cntA S 8 1 : Nat) /\ s6 = .int .i64 (k : Int) /\ Hid (SetOf S (prc xs k 0)) /\ Hid (Below w.heap.size w wr)) (fun _ s6 _ => 9 - (intOf s6).toNat)
 case atStart => exact ⟨0, fun _ => false, by omega, rfl, rfl, hide (fun c => by simp [prc_start HK.out c]), hide (Below.refl _ _)⟩
 case round =>
  obtain ⟨k, S, hk9, rfl, rfl, HS, HB⟩ := hrel
  by_cases hk8 : k <= 8
  ·have j1 : (k : Int) <= 8 := by omega
   have j0 : (0 : Int) <= (k : Int) := by omega
   have hw1 : IntKind.i64.wrap ((k : Int) + 1) = (k : Int) + 1 := by rw [IntKind.wrap_i64]; omega
   have hwd := hide (fun W => width_ri (k : Int) j0 j1 W)
   have hwb := wid_bd (k : Int)
   go_wp2
   go_loopw [5, 7] (fun s5 s7 wr => ∃ (a : Nat) (S : Nat -> Bool), a <= 256 /\ Hid ((a : Int) % wid k = 0) /\ s5 = .int .i64 (cntA S 8 1 : Nat) /\ s7 = .int .i64 (a : Int) /\ Hid (SetOf S (prc xs k (a : Int))) /\ Hid (Below w.heap.size w wr)) (fun _ s7 _ => 256 - (intOf s7).toNat)
   case atStart => exact ⟨0, S, by omega, hide (by simp), rfl, rfl, hide (by simpa using HS.out), HB⟩
   case round =>
    clear HS HB
    obtain ⟨a, S, ha, HA, rfl, rfl, HS, HB⟩ := hrel
    by_cases hlt : a < 256
    ·obtain ⟨a', e1, e2, e3, e4⟩ := step_in hk8 HA.out hlt
     have i1 : (a : Int) < 256 := by omega
     have hwa : IntKind.i64.wrap ((a : Int) + wid k) = (a : Int) + wid k := by rw [IntKind.wrap_i64]; omega
     have hle := cntA_le S 8 1
     have hw2 : IntKind.i64.wrap ((cntA S 8 1 : Int) + 1) = (cntA S 8 1 : Int) + 1 := by rw [IntKind.wrap_i64]; omega
     have yes := hide (show ∀ y ∈ ls, (k : Int) <= y.l -> ((a : Int) <= y.a /\ y.a < (a : Int) + wid k) -> ∀ W, Below w.heap.size w W -> ∃ (b : Nat) (S' : Nat -> Bool), b <= 256 /\ Hid ((b : Int) % wid k = 0) /\ Value.int .i64 ((cntA S 8 1 : Int) + 1) = .int .i64 (cntA S' 8 1 : Nat) /\ Value.int .i64 ((a : Int) + wid k) = .int .i64 (b : Int) /\ Hid (SetOf S' (prc xs k (b : Int))) /\ Hid (Below w.heap.size w W) from fun y hy hyl hya W hW => by
      have hf := prc_fresh HK.out (xs := xs) (k := k) (a := (a : Int)) (by omega) (by omega) hk8 HA.out
      have hS0 : S (pcn a k) = false := Bool.eq_false_iff.2 fun ht => hf ((HS.out _).1 ht)
      have hp := pcn_pos (A := a) (i := k) (by omega) hk8
      have hup := cntA_upd hS0 8 1
      rw [occ_one hp.1 hp.2] at hup
      refine ⟨a', updB S (pcn a k), e2, hide e3, by rw [hup]; simp, by rw [e1], hide ?_, hide hW⟩
      rw [e1]
      exact (HS.out.upd _).congr fun c => (prc_yes HK.out (by omega) (by omega) hk8 HA.out ((HM.out y).1 hy) hyl ((cov_at HA.out).1 hya) c).symm)
     have no := hide (show (∀ y ∈ ls, (k : Int) <= y.l -> ¬ ((a : Int) <= y.a /\ y.a < (a : Int) + wid k)) -> ∀ W, Below w.heap.size w W -> ∃ (b : Nat) (S' : Nat -> Bool), b <= 256 /\ Hid ((b : Int) % wid k = 0) /\ Value.int .i64 (cntA S 8 1 : Nat) = .int .i64 (cntA S' 8 1 : Nat) /\ Value.int .i64 ((a : Int) + wid k) = .int .i64 (b : Int) /\ Hid (SetOf S' (prc xs k (b : Int))) /\ Hid (Below w.heap.size w W) from fun hn W hW => by
      refine ⟨a', S, e2, hide e3, rfl, by rw [e1], hide ?_, hide hW⟩
      rw [e1]
      exact HS.out.congr fun c => (prc_no HK.out HA.out (fun y hy hyl hc => hn y ((HM.out y).2 hy) hyl ((cov_at HA.out).2 hc)) c).symm)
     have hdec : (256 : Nat) - ((a : Int) + wid k).toNat < 256 - (a : Int).toNat := by omega
     clear HS e1 e2 e3 e4
     go_wp2
     go_loopw [5, 8] (fun s5 s8 wr => ∃ j : Nat, j <= ls.length /\ s5 = .int .i64 (cntA S 8 1 : Nat) /\ s8 = .int .i64 (j : Int) /\ Hid (∀ i y, i < j -> ls[i]? = some y -> (k : Int) <= y.l -> ¬ ((a : Int) <= y.a /\ y.a < (a : Int) + wid k)) /\ Hid (Below w.heap.size w wr)) (fun _ s8 _ => ls.length - (intOf s8).toNat)
     case atStart => exact ⟨0, by omega, rfl, rfl, hide (fun i y hi => by omega), HB⟩
     case round =>
      clear HB
      obtain ⟨j, hj, rfl, rfl, HJ, HB⟩ := hrel
      by_cases hjl : j < ls.length
      ·obtain ⟨x, hx⟩ : ∃ x, ls[j]? = some x := ⟨_, List.getElem?_eq_getElem hjl⟩
       obtain ⟨g1, e1, a0, a1, a2, a3⟩ := rowG_rte HR.out hx
       subst e1
       have l0 : (0 : Int) <= (j : Int) := by omega
       have l1 : (j : Int) < (ls.length : Int) := by omega
       have f0 := (HB.out.cell (p := ⟨g1, j * 3, none⟩) a0).trans a1
       have f1 := (HB.out.cell (p := ⟨g1, j * 3 + 1, none⟩) a0).trans a2
       have hw4 : IntKind.i64.wrap ((j : Int) + 1) = (j : Int) + 1 := by rw [IntKind.wrap_i64]; omega
       have z1 : g1 < wr.heap.size := by have := HB.out.size; omega
       have next := hide (show ((k : Int) <= x.l -> ¬ ((a : Int) <= x.a /\ x.a < (a : Int) + wid k)) -> ∀ W, Below w.heap.size w W -> ∃ j' : Nat, j' <= ls.length /\ Value.int .i64 ((j : Int) + 1) = .int .i64 (j' : Int) /\ Hid (∀ i y, i < j' -> ls[i]? = some y -> (k : Int) <= y.l -> ¬ ((a : Int) <= y.a /\ y.a < (a : Int) + wid k)) /\ Hid (Below w.heap.size w W) from fun hn W hW => ⟨j + 1, by omega, by simp, hide (fun i y hi hy => by
        rcases Nat.lt_or_ge i j with h1 | h1
        ·exact HJ.out i y h1 hy
        ·obtain rfl : i = j := by omega
         rw [hx] at hy
         cases hy
         exact hn), hW⟩)
       have HX := hide (List.mem_of_getElem? hx)
       clear a1 a2 a3 hx HJ
       by_cases c1 : (k : Int) <= x.l
       ·by_cases c2 : (a : Int) <= x.a
        ·by_cases c3 : x.a < (a : Int) + wid k
         ·have nx := hide (yes.out x HX.out c1 ⟨c2, c3⟩)
          clear next yes no
          go_wp2
          go_quiet ((go_at_call 130; exact Calls.quiet_of_same (hwd.out _)))
          go_wp2_with fail
          refine (hwd.out _).mono ?_
          rintro _ _ ⟨rfl, rfl⟩
          go_wp2
          exact ⟨nx.out _ (HB.out.trans (Below.mono (by repeat (first | exact Below.refl _ _ | refine below_drewN ?_ _ | refine Below.drew ?_ | refine Below.trans ?_ (Below.mono (by assumption) ?_) | refine Below.alloc ?_ ?_ _ | refine Below.setCell ?_ ?_ _ | omega | (simp; omega) | simp)) HB.out.size)), hdec⟩
         ·have dc : decide (x.a < (a : Int) + wid k) = false := decide_eq_false c3
          have nx := hide (next.out fun _ h => c3 h.2)
          clear next yes no
          go_wp2
          go_quiet ((go_at_call 130; exact Calls.quiet_of_same (hwd.out _)))
          go_wp2
          obtain ⟨j', v1, v2, v3, v4⟩ := nx.out (wr.drewN nq) (HB.out.trans (Below.mono (by repeat (first | exact Below.refl _ _ | refine below_drewN ?_ _ | refine Below.drew ?_ | refine Below.trans ?_ (Below.mono (by assumption) ?_) | refine Below.alloc ?_ ?_ _ | refine Below.setCell ?_ ?_ _ | omega | (simp; omega) | simp)) HB.out.size))
          exact ⟨⟨j', v1, rfl, v2, v3, v4⟩, by simp [intOf]; omega⟩
        ·have dc : decide ((a : Int) <= x.a) = false := decide_eq_false c2
         have nx := hide (next.out fun _ h => c2 h.1)
         clear next yes no
         go_wp2
         go_quiet ((go_at_call 130; exact Calls.quiet_of_same (hwd.out _)))
         go_wp2
         obtain ⟨j', v1, v2, v3, v4⟩ := nx.out (wr.drewN nq) (HB.out.trans (Below.mono (by repeat (first | exact Below.refl _ _ | refine below_drewN ?_ _ | refine Below.drew ?_ | refine Below.trans ?_ (Below.mono (by assumption) ?_) | refine Below.alloc ?_ ?_ _ | refine Below.setCell ?_ ?_ _ | omega | (simp; omega) | simp)) HB.out.size))
         exact ⟨⟨j', v1, rfl, v2, v3, v4⟩, by simp [intOf]; omega⟩
       ·have dc : decide ((k : Int) <= x.l) = false := decide_eq_false c1
        have nx := hide (next.out fun h => absurd h c1)
        clear next yes no
        go_wp2
        go_quiet ((go_at_call 130; exact Calls.quiet_of_same (hwd.out _)))
        go_wp2
        obtain ⟨j', v1, v2, v3, v4⟩ := nx.out (wr.drewN nq) (HB.out.trans (Below.mono (by repeat (first | exact Below.refl _ _ | refine below_drewN ?_ _ | refine Below.drew ?_ | refine Below.trans ?_ (Below.mono (by assumption) ?_) | refine Below.alloc ?_ ?_ _ | refine Below.setCell ?_ ?_ _ | omega | (simp; omega) | simp)) HB.out.size))
        exact ⟨⟨j', v1, rfl, v2, v3, v4⟩, by simp [intOf]; omega⟩
      ·obtain rfl : j = ls.length := by omega
       have nx := hide (no.out fun y hy => by
        obtain ⟨i, hi⟩ := List.mem_iff_getElem?.1 hy
        exact HJ.out i y (List.getElem?_eq_some_iff.1 hi).1 hi)
       clear yes no HJ
       go_wp2_with fail
       refine (hwd.out _).mono ?_
       rintro _ _ ⟨rfl, rfl⟩
       go_wp2
       exact ⟨nx.out _ HB.out, hdec⟩
    ·obtain rfl : a = 256 := by omega
     have next := hide (show ∃ (k' : Nat) (S' : Nat -> Bool), k' <= 9 /\ Value.int .i64 (cntA S 8 1 : Nat) = .int .i64 (cntA S' 8 1 : Nat) /\ Value.int .i64 ((k : Int) + 1) = .int .i64 (k' : Int) /\ Hid (SetOf S' (prc xs k' 0)) /\ Hid (Below w.heap.size w wr) from ⟨k + 1, S, by omega, rfl, by simp, hide (HS.out.congr fun c => prc_level HK.out c), HB⟩)
     go_wp2
     exact ⟨next.out, by simp [intOf]; omega⟩
  ·obtain rfl : k = 9 := by omega
   by_cases h0 : ls.length = 0
   ·have fin := hide (show needK 2 xs = 1 from HN.out.trans (HE.out h0))
    have d0 : (ls.length : Int) = 0 := by omega
    rw [h0]
    clear h0
    go_wp2
    go_ret
    exact ⟨by rw [fin.out]; rfl, HB.out⟩
   ·have fin := hide (show (cntA S 8 1 : Int) = needK 2 xs from (HF.out S HS.out h0).trans HN.out.symm)
    have d0 : ((ls.length : Int) == 0) = false := by rw [beq_eq_false_iff_ne]; omega
    go_wp2
    go_ret
    exact ⟨congrArg (fun n => Ending.returned (.int .i64 n)) fin.out, HB.out⟩
set_option maxHeartbeats 400000 in
theorem cells1_r (w : World) (v : Value) (ls xs : List Ent) (hr : RowU w v ls) (h : Rep ls xs) (hs : Sorted xs) :
  Calls Tryz.prog 102 #[.int .i64 1, v] w fun r w' => r = .returned (.int .i64 (needK 1 xs)) /\ Below w.heap.size w w' := by
 obtain ⟨va, vc, rfl⟩ := hr.shape
 have HN := hide (show (ls.length : Int) = needK 1 xs by rw [h.len hs]; rfl)
 clear hr h hs
 go_enter Tryz.func102, Tryz.ntmps102
 go_wp2
 go_ret
 exact ⟨congrArg (fun n => Ending.returned (.int .i64 n)) HN.out, Below.refl _ _⟩
theorem cells_r (w : World) (k : Int) (v : Value) (ls xs : List Ent) (h1 : 1 <= k) (h3 : k <= 3) (hr : RowU w v ls) (hl : ls.length <= 1000000) (h : Rep ls xs) (hs : Sorted xs) (hk : ∀ x ∈ xs, okE x) :
  Calls Tryz.prog 102 #[.int .i64 k, v] w fun r w' => r = .returned (.int .i64 (needK k xs)) /\ Below w.heap.size w w' := by
 have hkk : k = 1 ∨ k = 2 ∨ k = 3 := by omega
 rcases hkk with rfl | rfl | rfl
 ·exact cells1_r w v ls xs hr h hs
 ·exact cells2_r w v ls xs hr hl h hs hk
 ·exact cells3_r w v ls xs hr hl h hs hk
end Go.Proofs.YtglbamalagacgaaGreat

import Derived.Test.YtglbamalagacgaaGreatF1
import Derived.BigQuiet
namespace Go.Proofs.YtglbamalagacgaaGreat
open Go.RowKit Go.Shelf

-- COUNTING THE PLACES OF A TREE
def cntA (S : Nat → Bool) : Nat → Nat → Nat
  | 0, c => if S c then 1 else 0
  | k + 1, c => (if S c then 1 else 0) + cntA S k (2 * c) + cntA S k (2 * c + 1)
def occ : Nat → Nat → Nat → Nat
  | 0, c, d => if d = c then 1 else 0
  | k + 1, c, d => (if d = c then 1 else 0) + occ k (2 * c) d + occ k (2 * c + 1) d
def updB (S : Nat → Bool) (d : Nat) : Nat → Bool := fun c => c == d || S c
theorem updB_if {S : Nat → Bool} {d : Nat} (h : S d = false) (c : Nat) : (if updB S d c = true then 1 else 0) = (if S c = true then 1 else 0) + (if d = c then 1 else 0) := by
  unfold updB
  by_cases hc : c = d
  · subst hc; simp [h]
  · have : ¬ d = c := fun e => hc e.symm
    simp [hc, this]
theorem cntA_upd {S : Nat → Bool} {d : Nat} (h : S d = false) : ∀ k c, cntA (updB S d) k c = cntA S k c + occ k c d
  | 0, c => by rw [cntA, cntA, occ]; exact updB_if h c
  | k + 1, c => by rw [cntA, cntA, occ, updB_if h c, cntA_upd h k, cntA_upd h k]; omega
set_option maxRecDepth 100000 in
theorem occ_all : (List.range 512).all (fun d => decide (d = 0) || occ 8 1 d == 1) = true := by kernel_rfl
theorem occ_one {d : Nat} (h : 1 ≤ d) (h2 : d < 512) : occ 8 1 d = 1 := by
  have := List.all_eq_true.1 occ_all d (List.mem_range.2 h2)
  simp only [Bool.or_eq_true, decide_eq_true_eq, beq_iff_eq] at this
  omega
theorem cntA_le (S : Nat → Bool) : ∀ k c, cntA S k c + 1 ≤ 2 * 2 ^ k
  | 0, c => by rw [cntA]; split <;> simp
  | k + 1, c => by
    have h1 := cntA_le S k (2 * c)
    have h2 := cntA_le S k (2 * c + 1)
    rw [cntA, Nat.pow_succ]
    split <;> omega
theorem cntA_cntB {q S : Nat → Bool} (hS : ∀ c, 2 ≤ c → S c = q c) (hh : ∀ c, 1 ≤ c → S c = false → S (2 * c) = false ∧ S (2 * c + 1) = false) : ∀ k c, 1 ≤ c → (cntA S k c : Int) = if S c = true then cntB q k c else 0
  | 0, c, _ => by rw [cntA, cntB]; split <;> rfl
  | k + 1, c, hc => by
    have h1 := cntA_cntB hS hh k (2 * c) (by omega)
    have h2 := cntA_cntB hS hh k (2 * c + 1) (by omega)
    rw [hS (2 * c) (by omega)] at h1
    rw [hS (2 * c + 1) (by omega)] at h2
    rw [cntA, cntB]
    cases hc' : S c with
    | true =>
      simp only [if_true]
      rw [← h1, ← h2]
      omega
    | false =>
      obtain ⟨e1, e2⟩ := hh c hc hc'
      rw [hS _ (by omega)] at e1 e2
      rw [e1] at h1
      rw [e2] at h2
      simp at h1 h2 ⊢
      omega
-- the places that the routes need
theorem pcn_div {A i j : Nat} (hj : j ≤ i) (hi : i ≤ 8) : pcn A i / 2 ^ j = pcn A (i - j) := by
  unfold pcn
  rw [Nat.div_div_eq_div_mul, ← Nat.pow_add, show 8 - i + j = 8 - (i - j) by omega]
def plc (xs : List Ent) (i : Nat) (c : Nat) : Prop := c = 1 ∨ ∃ x ∈ xs, rkE x < i ∧ ∃ k : Nat, (k : Int) ≤ x.l ∧ c = pcn x.a.toNat k
theorem plc_ndb {xs : List Ent} (hk : ∀ x ∈ xs, okE x) {c : Nat} (hc : 2 ≤ c) : plc xs 2304 c ↔ ndb xs c = true := by
  unfold plc ndb
  rw [List.any_eq_true]
  constructor
  · rintro (h | ⟨x, hx, _, k, h1, rfl⟩)
    · omega
    · have hp := (isPfx_iff _ _).1 (hk x hx).1
      refine ⟨x, hx, (ancb_iff (by omega) (pcE_bd (hk x hx).1).2).2 ⟨x.l.toNat - k, ?_⟩⟩
      unfold pcE
      rw [pcn_div (by omega) (by omega), show x.l.toNat - (x.l.toNat - k) = k by omega]
  · rintro ⟨x, hx, h⟩
    have hp := (isPfx_iff _ _).1 (hk x hx).1
    obtain ⟨j, hj⟩ := (ancb_iff (by omega) (pcE_bd (hk x hx).1).2).1 h
    refine .inr ⟨x, hx, by unfold rkE; omega, ?_⟩
    unfold pcE at hj
    by_cases hjl : j ≤ x.l.toNat
    · rw [pcn_div hjl (by omega)] at hj
      exact ⟨x.l.toNat - j, by omega, hj.symm⟩
    · exfalso
      have h1 : pcn x.a.toNat x.l.toNat / 2 ^ j ≤ pcn x.a.toNat x.l.toNat / 2 ^ x.l.toNat := Nat.div_le_div_left (Nat.pow_le_pow_right (by omega) (by omega)) (Nat.pow_pos (by omega))
      rw [pcn_div (Nat.le_refl _) (by omega), Nat.sub_self, pcn_zero (by omega)] at h1
      omega
theorem plc_up {xs : List Ent} (hk : ∀ x ∈ xs, okE x) {i c d : Nat} (hc : 1 ≤ c) (hd : d = 2 * c ∨ d = 2 * c + 1) (h : plc xs i d) : plc xs i c := by
  rcases h with h | ⟨x, hx, h0, k, h1, h2⟩
  · omega
  · have hp := (isPfx_iff _ _).1 (hk x hx).1
    cases k with
    | zero => rw [pcn_zero (by omega)] at h2; omega
    | succ k =>
      refine .inr ⟨x, hx, h0, k, by omega, ?_⟩
      have := pcn_div (A := x.a.toNat) (i := k + 1) (j := 1) (by omega) (by omega)
      rw [← h2] at this
      simp at this
      omega
def SetOf (S : Nat → Bool) (P : Nat → Prop) : Prop := ∀ c, S c = true ↔ P c
theorem cnt_trie {xs : List Ent} (hk : ∀ x ∈ xs, okE x) {S : Nat → Bool} (h : SetOf S (plc xs 2304)) : (cntA S 8 1 : Int) = trieN xs := by
  have h1 : S 1 = true := (h 1).2 (.inl rfl)
  have := cntA_cntB (q := ndb xs) (S := S) (fun c hc => by
    rw [Bool.eq_iff_iff, h c]
    exact plc_ndb hk hc) (fun c hc hf => by
    have hn : ¬ plc xs 2304 c := fun hp => by rw [(h c).2 hp] at hf; cases hf
    constructor
    · exact Bool.eq_false_iff.2 fun ht => hn (plc_up hk hc (.inl rfl) ((h _).1 ht))
    · exact Bool.eq_false_iff.2 fun ht => hn (plc_up hk hc (.inr rfl) ((h _).1 ht))) 8 1 (by omega)
  rw [this, if_pos h1]
  rfl
theorem plc_none {rs : Nat → Int} {xs : List Ent} (ht : Tie rs xs) (hs : Sorted xs) (hk : ∀ x ∈ xs, okE x) {i : Nat} (h : rs i = 0) (c : Nat) : plc xs (i + 1) c ↔ plc xs i c := by
  unfold plc
  refine or_congr Iff.rfl (exists_congr fun x => and_congr_right fun hx => and_congr_left fun _ => ?_)
  obtain ⟨h2, h3, _⟩ := ht.on hs hk hx
  constructor
  · intro h1
    rcases Nat.lt_or_ge (rkE x) i with h4 | h4
    · exact h4
    · have : rkE x = i := by omega
      rw [this] at h2
      omega
  · intro h1; omega
-- the levels of one route
def plk (xs : List Ent) (i a k : Nat) (c : Nat) : Prop := plc xs i c ∨ ∃ j, j < k ∧ c = pcn a j
theorem plk_zero {xs : List Ent} {i a : Nat} (c : Nat) : plk xs i a 0 c ↔ plc xs i c := ⟨fun h => h.elim id fun ⟨j, h, _⟩ => by omega, .inl⟩
theorem plk_succ {xs : List Ent} {i a k : Nat} (c : Nat) : plk xs i a (k + 1) c ↔ plk xs i a k c ∨ c = pcn a k := by
  unfold plk
  constructor
  · rintro (h | ⟨j, h1, h2⟩)
    · exact .inl (.inl h)
    · rcases Nat.lt_or_ge j k with h3 | h3
      · exact .inl (.inr ⟨j, h3, h2⟩)
      · obtain rfl : j = k := by omega
        exact .inr h2
  · rintro ((h | ⟨j, h1, h2⟩) | h)
    · exact .inl h
    · exact .inr ⟨j, by omega, h2⟩
    · exact .inr ⟨k, by omega, h⟩
theorem plk_all {xs : List Ent} (hk : ∀ x ∈ xs, okE x) {x : Ent} (hx : x ∈ xs) (c : Nat) : plk xs (rkE x) x.a.toNat (x.l.toNat + 1) c ↔ plc xs (rkE x + 1) c := by
  have hp := (isPfx_iff _ _).1 (hk x hx).1
  constructor
  · rintro ((h | ⟨y, hy, h0, h1⟩) | ⟨j, h1, h2⟩)
    · exact .inl h
    · exact .inr ⟨y, hy, by omega, h1⟩
    · exact .inr ⟨x, hx, by omega, j, by omega, h2⟩
  · rintro (h | ⟨y, hy, h0, j, h1, h2⟩)
    · exact .inl (.inl h)
    · rcases Nat.lt_or_ge (rkE y) (rkE x) with h3 | h3
      · exact .inl (.inr ⟨y, hy, h3, j, h1, h2⟩)
      · have hr : rkE y = rkE x := by omega
        have he := rank_inj (hk y hy).1 (hk x hx).1 hr
        exact .inr ⟨j, by omega, by rw [← he.1]; exact h2⟩
theorem SetOf.upd {S : Nat → Bool} {P : Nat → Prop} (h : SetOf S P) (d : Nat) : SetOf (updB S d) fun c => P c ∨ c = d := fun c => by
  unfold updB
  rw [Bool.or_eq_true, h c, beq_iff_eq]
  exact or_comm
theorem SetOf.congr {S : Nat → Bool} {P Q : Nat → Prop} (h : SetOf S P) (hq : ∀ c, P c ↔ Q c) : SetOf S Q := fun c => (h c).trans (hq c)
-- what the law has seen, by ranks
def seenR (S : Nat → Bool) (k : Nat) : Bool := okR k && S (pcn (k / 9) (k % 9))
theorem seen_at {S : Nat → Bool} {a k : Nat} (ha : a < 256) (hk : k ≤ 8) : seenR S (9 * cov (a : Int) k + k).toNat = S (pcn a k) := by
  have hp := cov_pfx (a := (a : Int)) (i := k) (by omega) (by omega) hk
  obtain ⟨b, m, e1, e2, hb, hm, he⟩ := pfx_of_nat hp
  unfold seenR
  rw [okR_of hp, he, show (9 * b + m) / 9 = b by omega, show (9 * b + m) % 9 = m by omega]
  have := pcn_cov (a := (a : Int)) (i := k) (by omega) (by omega) hk
  rw [e1] at this
  simp only [Int.toNat_natCast] at this
  obtain rfl : k = m := by omega
  rw [this]
  rfl
theorem seen_upd {S : Nat → Bool} {a k : Nat} (ha : a < 256) (hk : k ≤ 8) (j : Nat) : seenR (updB S (pcn a k)) j = if j = (9 * cov (a : Int) k + k).toNat then true else seenR S j := by
  have hp := cov_pfx (a := (a : Int)) (i := k) (by omega) (by omega) hk
  split
  · rename_i h
    subst h
    rw [seen_at ha hk]
    simp [updB]
  · rename_i h
    unfold seenR updB
    cases ho : okR j with
    | false => rfl
    | true =>
      have hne : ¬ pcn (j / 9) (j % 9) = pcn a k := fun he => by
        obtain ⟨e1, e2⟩ := okR_rank ho
        have := pcn_cov (a := (a : Int)) (i := k) (by omega) (by omega) hk
        have h3 := pcE_inj e2 hp (by unfold pcE; simp only [Int.toNat_natCast] at this ⊢; rw [he, this])
        exact h (by rw [← e1, h3.1, h3.2])
      simp [hne]
theorem seen_first (k : Nat) (hk : k < 2304) : seenR (fun c => c == 1) k = decide (k = 0) := by
  by_cases h : k = 0
  · subst h; decide
  · unfold seenR
    cases ho : okR k with
    | false => simp [h]
    | true =>
      obtain ⟨e1, e2⟩ := okR_rank ho
      have hne : ¬ pcn (k / 9) (k % 9) = 1 := fun he => by
        have h3 := pcE_inj e2 (b := 0) (m := 0) (by decide) (by unfold pcE; simp only [Int.toNat_natCast]; rw [he]; rfl)
        omega
      simp [hne, h]

-- THE STRETCHES
theorem str_one (xs : List Ent) : (strN xs 1).length = 1 := by
  show (strN xs 0 ++ _).length = 1
  have : strB xs 0 = true := by simp [strB]
  simp [strN, strR, this]
theorem str_succ {xs : List Ent} (hk : ∀ x ∈ xs, okE x) {a : Nat} (h1 : 1 ≤ a) (h2 : a < 256) : (sameR xs ((a : Int) - 1) a → (strN xs (a + 1)).length = (strN xs a).length) ∧ (¬ sameR xs ((a : Int) - 1) a → (strN xs (a + 1)).length = (strN xs a).length + 1) := by
  have e : strB xs (a : Int) = !(eqE (rt xs ((a : Int) - 1)) (rt xs a)) := by
    unfold strB
    rw [decide_eq_true (by omega), decide_eq_true (by omega), decide_eq_false (by omega)]
    rfl
  constructor
  · intro h
    have := (eqE_iff _ _).2 ((rt_same hk _ _).2 h)
    rw [this] at e
    rw [strN, List.length_append]
    simp [strR, e]
  · intro h
    have : eqE (rt xs ((a : Int) - 1)) (rt xs a) = false := Bool.eq_false_iff.2 fun ht => h ((rt_same hk _ _).1 ((eqE_iff _ _).1 ht))
    rw [this] at e
    rw [strN, List.length_append]
    simp [strR, e]
theorem cov_div {i j : Int} {m : Nat} : cov i m = cov j m ↔ i / wid m = j / wid m := by
  have hw := (wid_bd m).1
  unfold cov
  have e1 := Int.mul_ediv_add_emod i (wid m)
  have e2 := Int.mul_ediv_add_emod j (wid m)
  constructor
  · intro h
    have h3 : wid m * (i / wid m) = wid m * (j / wid m) := by omega
    exact Int.eq_of_mul_eq_mul_left (by omega) h3
  · intro h
    rw [h] at e1
    omega

end Go.Proofs.YtglbamalagacgaaGreat

namespace Go.Proofs.YtglbamalagacgaaGreat
open Go.RowKit Go.Shelf

attribute [local go_sem] Oper.semAt_some

-- the row of what was seen
def RowS (w : World) (g : Nat) (S : Nat → Bool) : Prop := ∃ cs, w.heap[g]? = some (.cells cs 4 (0, 0)) ∧ cs.size = 2304 ∧ ∀ k, k < 2304 → cs[k]? = some (.bool (seenR S k))
theorem RowS.cell {w : World} {g : Nat} {S : Nat → Bool} (h : RowS w g S) {k : Nat} (hk : k < 2304) : w.cell? ⟨g, k, none⟩ = some (.bool (seenR S k)) := by
  obtain ⟨cs, h3, _, h4⟩ := h
  simp [World.cell?, h3, h4 k hk]
theorem RowS.fz {w : World} {g : Nat} {S : Nat → Bool} (h : RowS w g S) (o : Nat) : w.frozen? ⟨g, o, none⟩ = false := by
  obtain ⟨cs, h3, _⟩ := h
  simp [World.frozen?, h3]
theorem RowS.kept {w w' : World} {g : Nat} {S : Nat → Bool} (h : RowS w g S) (h2 : w'.heap[g]? = w.heap[g]?) : RowS w' g S := by
  obtain ⟨cs, h3, h4⟩ := h; exact ⟨cs, h2.trans h3, h4⟩
theorem RowS.lt {w : World} {g : Nat} {S : Nat → Bool} (h : RowS w g S) : g < w.heap.size := by
  obtain ⟨cs, h3, h4⟩ := h; exact (Array.getElem?_eq_some_iff.1 h3).1
theorem RowS.put {w : World} {g : Nat} {S : Nat → Bool} (h : RowS w g S) {a k : Nat} (ha : a < 256) (hk : k ≤ 8) : RowS (w.setCell ⟨g, (9 * cov (a : Int) k + k).toNat, none⟩ (.bool true)) g (updB S (pcn a k)) := by
  obtain ⟨cs, h3, h4, h5⟩ := h
  have hg := (Array.getElem?_eq_some_iff.1 h3).1
  refine ⟨cs.setIfInBounds (9 * cov (a : Int) k + k).toNat (.bool true), ?_, by simpa using h4, fun j hj => ?_⟩
  · have hg3 : w.heap[g]? = some w.heap[g] := Array.getElem?_eq_some_iff.2 ⟨hg, rfl⟩
    rw [hg3] at h3
    simp only [World.setCell, Array.getElem?_modify, if_true, hg3, Option.map_some, Option.some.inj h3]
    rfl
  · rw [seen_upd ha hk, Array.getElem?_setIfInBounds]
    by_cases hjk : j = (9 * cov (a : Int) k + k).toNat
    · rw [if_pos hjk.symm, if_pos hjk, if_pos (by omega)]
    · rw [if_neg (fun e => hjk e.symm), if_neg hjk]; exact h5 j hj
-- a new row, the first place seen
theorem makeSeen0 : ∃ M : Array Value, M.size = 2304 ∧ (∀ k, k < 2304 → M[k]? = some (.bool false)) ∧ ∀ w, (Instr.makeSlice 159 (.int .i64 2304) (.int .i64 2304)).run Tryz.prog w = .ok (.slice (some ⟨w.heap.size, 0, none⟩) 2304 2304) (w.alloc (.cells M 4)) := by
  refine ⟨madeCells #[.bool false] 2304, size_madeCells _ _, fun k hk => by simp [madeCells, hk, Nat.mod_one], fun w => ?_⟩
  exact run_make_row' (P := Tryz.prog) 159 4 (.bool false) 1 Tryz.underlying159 (by kernel_rfl) rfl .i64 .i64 2304 (by omega) (by omega) w
theorem makeSeen : ∃ M : Array Value, M[0]? = some (.bool false) ∧ ∀ w, (Instr.makeSlice 159 (.int .i64 2304) (.int .i64 2304)).run Tryz.prog w = .ok (.slice (some ⟨w.heap.size, 0, none⟩) 2304 2304) (w.alloc (.cells M 4)) ∧ RowS (w.alloc (.cells (M.setIfInBounds 0 (.bool true)) 4)) w.heap.size (fun c => c == 1) := by
  obtain ⟨M, hz, hM, hr⟩ := makeSeen0
  refine ⟨M, hM 0 (by omega), fun w => ⟨hr w, ?_⟩⟩
  refine ⟨M.setIfInBounds 0 (.bool true), World.alloc_heap_new w _, by simpa using hz, fun j hj => ?_⟩
  · rw [seen_first j hj, Array.getElem?_setIfInBounds]
    by_cases hj0 : j = 0
    · subst hj0; simp [hz]
    · rw [if_neg (by omega), hM j hj]; simp [hj0]

set_option maxHeartbeats 2000000 in
set_option maxRecDepth 4000 in
theorem bookTrie_any (w : World) (bk g t : Nat) (cf : Cfg) (rs : Nat → Int) (xs : List Ent) (hB : BookF w bk g t cf rs) (ht : Tie rs xs) (hs : Sorted xs) (hk : ∀ x ∈ xs, okE x) :
    Calls Tryz.prog 86 #[ptrV bk] w fun r w' => r = .returned (.int .i64 (trieN xs)) ∧ Below w.heap.size w w' := by
  have bl := hB.lt.1
  have y5 := hB.r
  have HB := hide hB
  have HT := hide ht
  have HS := hide hs
  have HK := hide hk
  obtain ⟨M, hM0, hmk⟩ := makeSeen
  have hm1 := (hmk w).1
  have HR := hide (hmk w).2
  obtain ⟨N, hN⟩ : ∃ N : Nat, 2304 = N := ⟨_, rfl⟩
  have hNi : (2304 : Int) = (N : Int) := by omega
  rw [hN] at y5
  rw [hN, hNi] at hm1
  have hN1 : N ≤ 1000000 := by omega
  have hN2 : (0 : Int) < (N : Int) := by omega
  have HN := hide hN
  have hn0 : ¬ bk = w.heap.size := by omega
  have hn1 : ¬ w.heap.size = bk := by omega
  clear hB ht hs hk hmk hN hNi
  have c0 : (w.alloc (.cells M 4)).cell? ⟨w.heap.size, 0, none⟩ = some (.bool false) := by simp only [World.cell?]; rw [World.alloc_heap_new]; exact hM0
  have fz : (w.alloc (.cells M 4)).frozen? ⟨w.heap.size, 0, none⟩ = false := by simp [go_sem]
  go_enter Tryz.func86, Tryz.ntmps86
  go_wp2
  go_loopw [4, 5] (fun s4 s5 wr => ∃ (i : Nat) (S : Nat → Bool), i ≤ 2304 ∧ s4 = .int .i64 (cntA S 8 1 : Nat) ∧ s5 = .int .i64 (i : Int) ∧ Hid (RowS wr w.heap.size S) ∧ Hid (SetOf S (plc xs i)) ∧ Hid (Below w.heap.size w wr)) (fun _ s5 _ => 2304 - (intOf s5).toNat)
  case atStart => exact ⟨0, fun c => c == 1, by omega, rfl, rfl, HR, hide (fun c => by simp [plc]), hide (by repeat (first | exact Below.refl _ _ | refine below_drewN ?_ _ | refine Below.drew ?_ | refine Below.trans ?_ (Below.mono (by assumption) (by first | omega | (simp; omega) | simp)) | refine Below.alloc ?_ (by first | omega | (simp; omega) | simp) _ | refine Below.setCell ?_ (by first | omega | (simp; omega) | simp) _))⟩
  case round =>
    obtain ⟨i, S, hi, rfl, rfl, HRr, HSr, HBr⟩ := hrel
    have hbr := HB.out.kept (HBr.out.block _ HB.out.lt.1) (HBr.out.block _ HB.out.lt.2)
    have z5 := hbr.r
    rw [HN.out] at z5
    have zb : bk < wr.heap.size := by have := HBr.out.size; omega
    by_cases hlt : i < 2304
    · have yc := hbr.cell hlt
      have j0 : (0 : Int) ≤ (i : Int) := by omega
      have j1 : (i : Int) < (N : Int) := by have := HN.out; omega
      have hw1 : IntKind.i64.wrap ((i : Int) + 1) = (i : Int) + 1 := by rw [IntKind.wrap_i64]; omega
      clear hbr
      by_cases hv : rs i = 0
      · have d1 : (rs i == 0) = true := by simpa using hv
        have next := hide (show ∃ (i' : Nat) (S' : Nat → Bool), i' ≤ 2304 ∧ Value.int .i64 (cntA S 8 1 : Nat) = .int .i64 (cntA S' 8 1 : Nat) ∧ Value.int .i64 ((i : Int) + 1) = .int .i64 (i' : Int) ∧ Hid (RowS wr w.heap.size S') ∧ Hid (SetOf S' (plc xs i')) ∧ Hid (Below w.heap.size w wr) from ⟨i + 1, S, by omega, rfl, by simp, HRr, hide (HSr.out.congr fun c => (plc_none HT.out HS.out HK.out hv c).symm), HBr⟩)
        clear hv
        go_wp2
        exact ⟨next.out, by simp [intOf]; omega⟩
      · have d1 : (rs i == 0) = false := by simpa using hv
        obtain ⟨x, hx, hrk⟩ := HT.out.at hv
        have hpx := (isPfx_iff _ _).1 (HK.out x hx).1
        obtain ⟨a, ha⟩ : ∃ a : Nat, x.a = a := ⟨x.a.toNat, by omega⟩
        obtain ⟨l, hl⟩ : ∃ l : Nat, x.l = l := ⟨x.l.toNat, by omega⟩
        have hia : (i : Int) / 9 = a := by rw [← hrk]; unfold rkE; omega
        have hil : (i : Int) % 9 = l := by rw [← hrk]; unfold rkE; omega
        have ha2 : a < 256 := by omega
        have hl2 : l ≤ 8 := by omega
        have Hall := hide (show ∀ c, plk xs i a (l + 1) c ↔ plc xs (i + 1) c from fun c => by
          have := plk_all HK.out hx c
          rw [hrk, ha, hl] at this
          simpa using this)
        have hw9 : IntKind.i64.wrap ((i : Int) / 9) = (i : Int) / 9 := by rw [IntKind.wrap_i64]; omega
        clear hv hpx hrk hx ha hl x
        go_wp2
        go_loopw [4, 6] (fun s4 s6 wr => ∃ (k : Nat) (S : Nat → Bool), k ≤ l + 1 ∧ s4 = .int .i64 (cntA S 8 1 : Nat) ∧ s6 = .int .i64 (k : Int) ∧ Hid (RowS wr w.heap.size S) ∧ Hid (SetOf S (plk xs i a k)) ∧ Hid (Below w.heap.size w wr)) (fun _ s6 _ => 9 - (intOf s6).toNat)
        case atStart => exact ⟨0, S, by omega, rfl, rfl, HRr, hide (HSr.out.congr fun c => (plk_zero c).symm), HBr⟩
        case round =>
          clear HRr HSr HBr
          obtain ⟨k, S, hk, rfl, rfl, HRr, HSr, HBr⟩ := hrel
          by_cases hkl : k ≤ l
          · have k0 : (0 : Int) ≤ (k : Int) := by omega
            have k8 : (k : Int) ≤ 8 := by omega
            have kl : (k : Int) ≤ (l : Int) := by omega
            have a0 : (0 : Int) ≤ (a : Int) := by omega
            have a1 : (a : Int) < 256 := by omega
            have hw0 := (wid_bd k).1
            have hwb := (wid_bd k).2
            have hwn : ¬ wid k = 0 := by omega
            have hmn := Int.emod_nonneg (a : Int) hwn
            have hml := Int.emod_lt_of_pos (a : Int) hw0
            have hcb := cov_bd (a : Int) k a0
            have hcv : (a : Int) - (a : Int) % wid k = cov a k := rfl
            have hpf : isPfx (cov a k) k = true := cov_pfx a0 a1 (by omega)
            obtain ⟨p, hp1, hp2, hp3⟩ := rank_nat hpf
            have hwr1 : IntKind.i64.wrap ((a : Int) - (a : Int) % wid k) = cov a k := by rw [IntKind.wrap_i64, hcv]; omega
            have hrk := hide (fun W => rank_any (cov a k) k hpf W)
            have hwd := hide (fun W => width_any (k : Int) k0 k8 W)
            rw [hp2] at hrk
            have i0 : (0 : Int) ≤ (p : Int) := by omega
            have i1 : (p : Int) < (N : Int) := by have := HN.out; omega
            have hcell := HRr.out.cell hp1
            have hfz := HRr.out.fz p
            have hle := cntA_le S 8 1
            have hw2 : IntKind.i64.wrap ((cntA S 8 1 : Int) + 1) = (cntA S 8 1 : Int) + 1 := by rw [IntKind.wrap_i64]; omega
            have hw3 : IntKind.i64.wrap ((k : Int) + 1) = (k : Int) + 1 := by rw [IntKind.wrap_i64]; omega
            have hsz := HRr.out.lt
            have hat := seen_at (S := S) (a := a) (k := k) ha2 (by omega)
            have hput := HRr.out.put (a := a) (k := k) ha2 (by omega)
            rw [hp3] at hat hput
            rw [hat] at hcell
            have hpos := pcn_pos (A := a) (i := k) (by omega) (by omega)
            have hocc := occ_one hpos.1 hpos.2
            cases hS : S (pcn a k) with
            | true =>
              rw [hS] at hcell
              have next := hide (show ∃ (k' : Nat) (S' : Nat → Bool), k' ≤ l + 1 ∧ Value.int .i64 (cntA S 8 1 : Nat) = .int .i64 (cntA S' 8 1 : Nat) ∧ Value.int .i64 ((k : Int) + 1) = .int .i64 (k' : Int) ∧ Hid (RowS wr w.heap.size S') ∧ Hid (SetOf S' (plk xs i a k')) ∧ Hid (Below w.heap.size w wr) from ⟨k + 1, S, by omega, rfl, by simp, HRr, hide (HSr.out.congr fun c => by
                rw [plk_succ]
                exact ⟨.inl, fun h => h.elim id fun e => by rw [e]; exact (HSr.out _).1 hS⟩), HBr⟩)
              clear hS hat hput hpos hocc hpf hp3 hp2 hcv hcb hmn hml
              generalize cov (a : Int) k = cvv at *
              go_wp2_with fail
              refine (hwd.out _).mono ?_
              rintro _ w2 ⟨rfl, rfl⟩
              go_wp2_with fail
              refine (hrk.out _).mono ?_
              rintro _ w2 ⟨rfl, rfl⟩
              go_wp2
              exact ⟨next.out, by simp [intOf]; omega⟩
            | false =>
              rw [hS] at hcell
              have hup := cntA_upd hS 8 1
              rw [hocc] at hup
              have next := hide (show ∃ (k' : Nat) (S' : Nat → Bool), k' ≤ l + 1 ∧ Value.int .i64 ((cntA S 8 1 : Int) + 1) = .int .i64 (cntA S' 8 1 : Nat) ∧ Value.int .i64 ((k : Int) + 1) = .int .i64 (k' : Int) ∧ Hid (RowS (wr.setCell ⟨w.heap.size, p, none⟩ (.bool true)) w.heap.size S') ∧ Hid (SetOf S' (plk xs i a k')) ∧ Hid (Below w.heap.size w (wr.setCell ⟨w.heap.size, p, none⟩ (.bool true))) from ⟨k + 1, updB S (pcn a k), by omega, by rw [hup]; simp, by simp, hput, hide ((HSr.out.upd _).congr fun c => (plk_succ c).symm), HBr.out.setCell (Nat.le_refl _) _⟩)
              clear hS hat hput hpos hocc hpf hp3 hp2 hcv hcb hmn hml hup
              generalize cov (a : Int) k = cvv at *
              go_wp2_with fail
              refine (hwd.out _).mono ?_
              rintro _ w2 ⟨rfl, rfl⟩
              go_wp2_with fail
              refine (hrk.out _).mono ?_
              rintro _ w2 ⟨rfl, rfl⟩
              go_wp2
              exact ⟨next.out, by simp [intOf]; omega⟩
          · obtain rfl : k = l + 1 := by omega
            have kl : ¬ ((l + 1 : Nat) : Int) ≤ (l : Int) := by omega
            have next := hide (show ∃ (i' : Nat) (S' : Nat → Bool), i' ≤ 2304 ∧ Value.int .i64 (cntA S 8 1 : Nat) = .int .i64 (cntA S' 8 1 : Nat) ∧ Value.int .i64 ((i : Int) + 1) = .int .i64 (i' : Int) ∧ Hid (RowS wr w.heap.size S') ∧ Hid (SetOf S' (plc xs i')) ∧ Hid (Below w.heap.size w wr) from ⟨i + 1, S, by omega, rfl, by simp, HRr, hide (HSr.out.congr fun c => Hall.out c), HBr⟩)
            go_wp2
            exact ⟨next.out, by simp [intOf]; omega⟩
    · obtain rfl : i = 2304 := by omega
      have fin := hide (show Value.int .i64 (cntA S 8 1 : Nat) = .int .i64 (trieN xs) by rw [cnt_trie HK.out HSr.out])
      have j1 : ¬ ((2304 : Nat) : Int) < (N : Int) := by have := HN.out; omega
      clear hbr
      go_wp2
      go_ret
      exact ⟨congrArg Ending.returned fin.out, HBr.out⟩

theorem same_iff {xs : List Ent} {i j : Int} : sameR xs i j ↔ blI (blN xs i 9) = blI (blN xs j 9) ∧ ∀ m, blN xs i 9 = some m → i / wid m = j / wid m := by
  unfold sameR
  have e : blN xs i 9 = blN xs j 9 ↔ blI (blN xs i 9) = blI (blN xs j 9) := by
    cases blN xs i 9 with
    | none => cases blN xs j 9 with
      | none => simp
      | some n => simp [blI]
    | some m => cases blN xs j 9 with
      | none => simp [blI]
      | some n => simp [blI]; omega
  rw [e]
  refine and_congr_right fun _ => forall_congr' fun m => imp_congr_right fun _ => cov_div
set_option maxHeartbeats 2000000 in
set_option maxRecDepth 4000 in
theorem bookRanges_any (w : World) (bk g t : Nat) (cf : Cfg) (rs : Nat → Int) (xs : List Ent) (hB : BookF w bk g t cf rs) (ht : Tie rs xs) (hs : Sorted xs) (hk : ∀ x ∈ xs, okE x) :
    Calls Tryz.prog 87 #[ptrV bk] w fun r w' => r = .returned (.int .i64 ((xs.length : Int) + ((strL xs).length : Nat))) ∧ Below w.heap.size w w' := by
  have bl := hB.lt.1
  have hcn := hide (bookCount_any w bk g t cf rs xs hB ht hs hk)
  have hxl : xs.length ≤ 2304 := by rw [← cnt_all ht hs hk]; exact cntR_le rs 2304
  have HB := hide hB
  have HT := hide ht
  have HK := hide hk
  clear hB ht hs hk
  have hw0 : IntKind.i64.wrap ((xs.length : Int) + 1) = (xs.length : Int) + 1 := by rw [IntKind.wrap_i64]; omega
  go_enter Tryz.func87, Tryz.ntmps87
  go_wp2_with fail
  refine hcn.out.mono ?_
  rintro _ w2 ⟨rfl, hb2⟩
  have HB2 := hide hb2
  clear hb2 hcn
  go_wp2
  go_loopw [3, 4] (fun s3 s4 wr => ∃ a : Nat, 1 ≤ a ∧ a ≤ 256 ∧ s3 = .int .i64 ((xs.length : Int) + ((strN xs a).length : Nat)) ∧ s4 = .int .i64 (a : Int) ∧ Hid (Below w.heap.size w wr)) (fun _ s4 _ => 256 - (intOf s4).toNat)
  case atStart => exact ⟨1, by omega, by omega, by rw [str_one]; rfl, rfl, HB2⟩
  case round =>
    clear HB2
    obtain ⟨a, ha1, ha, rfl, rfl, HBr⟩ := hrel
    by_cases hlt : a < 256
    · have hbr := HB.out.kept (HBr.out.block _ HB.out.lt.1) (HBr.out.block _ HB.out.lt.2)
      have j0 : (0 : Int) ≤ (a : Int) - 1 := by omega
      have j1 : (a : Int) < 256 := by omega
      have j2 : (0 : Int) ≤ (a : Int) := by omega
      have hw1 : IntKind.i64.wrap ((a : Int) + 1) = (a : Int) + 1 := by rw [IntKind.wrap_i64]; omega
      have hw2 : IntKind.i64.wrap ((a : Int) - 1) = (a : Int) - 1 := by rw [IntKind.wrap_i64]; omega
      have hb1 := hide (bookBest_any wr bk g t cf rs xs ((a : Int) - 1) hbr HT.out HK.out j0 (by omega))
      have hsl : (strN xs a).length ≤ a := strN_len xs a
      have hw3 : IntKind.i64.wrap ((xs.length : Int) + ((strN xs a).length : Nat) + 1) = (xs.length : Int) + ((strN xs a).length : Nat) + 1 := by rw [IntKind.wrap_i64]; omega
      have Hsu := hide (str_succ HK.out ha1 hlt)
      have Hsm := hide (same_iff (xs := xs) (i := (a : Int) - 1) (j := (a : Int)))
      have yes := hide (show sameR xs ((a : Int) - 1) a → ∀ W, Below w.heap.size w W → ∃ a' : Nat, 1 ≤ a' ∧ a' ≤ 256 ∧ Value.int .i64 ((xs.length : Int) + ((strN xs a).length : Nat)) = .int .i64 ((xs.length : Int) + ((strN xs a').length : Nat)) ∧ Value.int .i64 ((a : Int) + 1) = .int .i64 (a' : Int) ∧ Hid (Below w.heap.size w W) from fun h W hW => ⟨a + 1, by omega, by omega, by rw [Hsu.out.1 h], by simp, hW⟩)
      have no := hide (show ¬ sameR xs ((a : Int) - 1) a → ∀ W, Below w.heap.size w W → ∃ a' : Nat, 1 ≤ a' ∧ a' ≤ 256 ∧ Value.int .i64 ((xs.length : Int) + ((strN xs a).length : Nat) + 1) = .int .i64 ((xs.length : Int) + ((strN xs a').length : Nat)) ∧ Value.int .i64 ((a : Int) + 1) = .int .i64 (a' : Int) ∧ Hid (Below w.heap.size w W) from fun h W hW => ⟨a + 1, by omega, by omega, by rw [Hsu.out.2 h]; simp; omega, by simp, hW⟩)
      clear hbr hsl
      go_wp2_with fail
      refine hb1.out.mono ?_
      rintro _ w3 ⟨rfl, hb3⟩
      have hbw := HBr.out.trans (hb3.mono HBr.out.size)
      have hb4 := hide (bookBest_any w3 bk g t cf rs xs (a : Int) (HB.out.kept (hbw.block _ HB.out.lt.1) (hbw.block _ HB.out.lt.2)) HT.out HK.out j2 j1)
      have HBw := hide hbw
      clear hb1 hb3 hbw HBr
      go_wp2_with fail
      refine hb4.out.mono ?_
      rintro _ w4 ⟨rfl, hb5⟩
      have HB5 := hide (HBw.out.trans (hb5.mono HBw.out.size))
      clear hb4 hb5 HBw
      by_cases hne : blI (blN xs ((a : Int) - 1) 9) = blI (blN xs (a : Int) 9)
      · cases hX : blN xs ((a : Int) - 1) 9 with
        | none =>
          have next := hide (yes.out (Hsm.out.2 ⟨hne, fun m hm => by rw [hX] at hm; cases hm⟩))
          rw [hX] at hne
          rw [← hne, show blI none = -1 from rfl]
          clear hX hne yes no
          go_wp2
          go_quiet (fail)
          go_wp2
          exact ⟨next.out _ (HB5.out.trans (Below.mono (by repeat (first | exact Below.refl _ _ | refine below_drewN ?_ _ | refine Below.drew ?_ | refine Below.trans ?_ (Below.mono (by assumption) (by first | omega | (simp; omega) | simp)) | refine Below.alloc ?_ (by first | omega | (simp; omega) | simp) _ | refine Below.setCell ?_ (by first | omega | (simp; omega) | simp) _)) HB5.out.size)), by simp [intOf]; omega⟩
        | some m =>
          have hm9 := (blN_get 9 hX).2
          have d0 : (0 : Int) ≤ (m : Int) := by omega
          have d8 : (m : Int) ≤ 8 := by omega
          have v0 := (wid_bd m).1
          have vb := (wid_bd m).2
          have vn : ¬ wid m = 0 := by omega
          have u1 := Int.ediv_nonneg j0 (Int.le_of_lt v0)
          have u2 := Int.ediv_nonneg j2 (Int.le_of_lt v0)
          have u3 := Int.ediv_le_self (wid m) j0
          have u4 := Int.ediv_le_self (wid m) j2
          have hw5 : IntKind.i64.wrap (((a : Int) - 1) / wid m) = ((a : Int) - 1) / wid m := by rw [IntKind.wrap_i64]; omega
          have hw6 : IntKind.i64.wrap ((a : Int) / wid m) = (a : Int) / wid m := by rw [IntKind.wrap_i64]; omega
          have hwd := hide (fun W => width_any (m : Int) d0 d8 W)
          have dm : decide ((m : Int) < 0) = false := decide_eq_false (by omega)
          by_cases hd : ((a : Int) - 1) / wid m = (a : Int) / wid m
          · have next := hide (yes.out (Hsm.out.2 ⟨hne, fun m' hm' => by rw [hX] at hm'; cases hm'; exact hd⟩))
            have hdb : (((a : Int) - 1) / wid m == (a : Int) / wid m) = true := by simpa using hd
            rw [hX] at hne
            rw [← hne, show blI (some m) = (m : Int) from rfl]
            clear hX hne yes no hd
            go_wp2
            go_quiet ((go_at_call 42; exact Calls.quiet_of_same (hwd.out _)))
            go_wp2
            exact ⟨next.out _ (HB5.out.trans (Below.mono (by repeat (first | exact Below.refl _ _ | refine below_drewN ?_ _ | refine Below.drew ?_ | refine Below.trans ?_ (Below.mono (by assumption) (by first | omega | (simp; omega) | simp)) | refine Below.alloc ?_ (by first | omega | (simp; omega) | simp) _ | refine Below.setCell ?_ (by first | omega | (simp; omega) | simp) _)) HB5.out.size)), by simp [intOf]; omega⟩
          · have next := hide (no.out fun h => hd ((Hsm.out.1 h).2 m hX))
            have hdb : (((a : Int) - 1) / wid m == (a : Int) / wid m) = false := by simpa using hd
            rw [hX] at hne
            rw [← hne, show blI (some m) = (m : Int) from rfl]
            clear hX hne yes no hd
            go_wp2
            go_quiet ((go_at_call 42; exact Calls.quiet_of_same (hwd.out _)))
            go_wp2
            exact ⟨next.out _ (HB5.out.trans (Below.mono (by repeat (first | exact Below.refl _ _ | refine below_drewN ?_ _ | refine Below.drew ?_ | refine Below.trans ?_ (Below.mono (by assumption) (by first | omega | (simp; omega) | simp)) | refine Below.alloc ?_ (by first | omega | (simp; omega) | simp) _ | refine Below.setCell ?_ (by first | omega | (simp; omega) | simp) _)) HB5.out.size)), by simp [intOf]; omega⟩
      · have next := hide (no.out fun h => hne (Hsm.out.1 h).1)
        have hdb : (blI (blN xs ((a : Int) - 1) 9) == blI (blN xs (a : Int) 9)) = false := by simpa using hne
        clear hne yes no
        generalize blI (blN xs ((a : Int) - 1) 9) = X at *
        generalize blI (blN xs (a : Int) 9) = Y at *
        go_wp2
        go_quiet (fail)
        go_wp2
        exact ⟨next.out _ (HB5.out.trans (Below.mono (by repeat (first | exact Below.refl _ _ | refine below_drewN ?_ _ | refine Below.drew ?_ | refine Below.trans ?_ (Below.mono (by assumption) (by first | omega | (simp; omega) | simp)) | refine Below.alloc ?_ (by first | omega | (simp; omega) | simp) _ | refine Below.setCell ?_ (by first | omega | (simp; omega) | simp) _)) HB5.out.size)), by simp [intOf]; omega⟩
    · obtain rfl : a = 256 := by omega
      have fin := hide (show Value.int .i64 ((xs.length : Int) + ((strN xs 256).length : Nat)) = .int .i64 ((xs.length : Int) + ((strL xs).length : Nat)) from rfl)
      go_wp2
      go_ret
      exact ⟨congrArg Ending.returned fin.out, HBr.out⟩

theorem need_any (w : World) (bk g t : Nat) (cf : Cfg) (rs : Nat → Int) (xs : List Ent) (k : Int) (h1 : 1 ≤ k) (h3 : k ≤ 3) (hB : BookF w bk g t cf rs) (ht : Tie rs xs) (hs : Sorted xs) (hk : ∀ x ∈ xs, okE x) :
    Calls Tryz.prog 48 #[ptrV bk, .int .i64 k] w fun r w' => r = .returned (.int .i64 (needK k xs)) ∧ Below w.heap.size w w' := by
  have hc1 := hide (bookCount_any w bk g t cf rs xs hB ht hs hk)
  have hc2 := hide (bookTrie_any w bk g t cf rs xs hB ht hs hk)
  have hc3 := hide (bookRanges_any w bk g t cf rs xs hB ht hs hk)
  clear hB ht hs hk
  have hkk : k = 1 ∨ k = 2 ∨ k = 3 := by omega
  rcases hkk with rfl | rfl | rfl
  · go_enter Tryz.func48, Tryz.ntmps48
    go_wp2_with fail
    refine hc1.out.mono ?_
    rintro _ w2 ⟨rfl, hb2⟩
    go_wp2
    go_ret
    exact ⟨rfl, hb2⟩
  · go_enter Tryz.func48, Tryz.ntmps48
    go_wp2_with fail
    refine hc2.out.mono ?_
    rintro _ w2 ⟨rfl, hb2⟩
    go_wp2
    go_ret
    exact ⟨rfl, hb2⟩
  · go_enter Tryz.func48, Tryz.ntmps48
    go_wp2_with fail
    refine hc3.out.mono ?_
    rintro _ w2 ⟨rfl, hb2⟩
    go_wp2
    go_ret
    exact ⟨rfl, hb2⟩

end Go.Proofs.YtglbamalagacgaaGreat

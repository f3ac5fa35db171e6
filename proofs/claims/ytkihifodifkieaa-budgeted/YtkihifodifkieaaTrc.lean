import Derived.Test.YtkihifodifkieaaTrt
namespace Go.Proofs.Ytkihifodifkieaa
open Go.RowKit

theorem idx0 (x y : Value) (w : World) : (Instr.index 83 (.agg #[x, y]) (.int .i64 0)).run Try.prog w = .ok x w := by
  have hq0 : (part 82 #[x, y] 0).run Try.prog w = .ok x w := by simp [go_sem]
  simp [Instr.index, run_underlying Try.underlying83, asIntOf, hq0]
theorem idx1 (x y : Value) (w : World) : (Instr.index 83 (.agg #[x, y]) (.int .i64 1)).run Try.prog w = .ok y w := by
  have hq1 : (part 82 #[x, y] 1).run Try.prog w = .ok y w := by simp [go_sem]
  simp [Instr.index, run_underlying Try.underlying83, asIntOf, hq1]

set_option maxRecDepth 4000 in
set_option maxHeartbeats 800000 in
theorem count_node (w : World) (b : Nat) (n : Int) (o1 o2 : Option Nat) (m1 m2 : Int) (hb : w.cell? ⟨b, 0, none⟩ = some (.int .i64 n)) (c1 : w.cell? ⟨b, 1, none⟩ = some (ptrO o1)) (c2 : w.cell? ⟨b, 2, none⟩ = some (ptrO o2))
    (h1 : ∀ b1, o1 = some b1 → Calls Try.prog 106 #[ptrV b1] w fun r w' => w' = w ∧ r = .returned (.int .i64 m1)) (h2 : ∀ b2, o2 = some b2 → Calls Try.prog 106 #[ptrV b2] w fun r w' => w' = w ∧ r = .returned (.int .i64 m2))
    (hm1 : 0 ≤ m1 ∧ m1 ≤ 1000) (hm2 : 0 ≤ m2 ∧ m2 ≤ 1000) :
    Calls Try.prog 106 #[ptrV b] w fun r w' => w' = w ∧ r = .returned (.int .i64 (1 + (if o1.isSome then m1 else 0) + (if o2.isSome then m2 else 0))) := by
  have hbl := World.block_lt_of_cell? w _ hb
  simp only at hbl
  have i0 := idx0
  have i1 := idx1
  have w1 : IntKind.i64.wrap (1 + m1) = 1 + m1 := by rw [IntKind.wrap_i64]; omega
  have w2 : IntKind.i64.wrap (1 + m2) = 1 + m2 := by rw [IntKind.wrap_i64]; omega
  have w3 : IntKind.i64.wrap (1 + m1 + m2) = 1 + m1 + m2 := by rw [IntKind.wrap_i64]; omega
  cases o1 with
  | none =>
    rw [ptrO_none] at c1
    cases o2 with
    | none =>
      rw [ptrO_none] at c2
      clear h1 h2
      go_enter Try.func106, Try.ntmps106
      go_wp2
      refine wp_loop_rounds 3 ?_
      rw [rounds_succ]
      go_wp2
      rw [rounds_succ]
      go_wp2
      rw [rounds_succ]
      go_wp2
      go_ret
      exact ⟨rfl, rfl⟩
    | some b2 =>
      rw [ptrO_some] at c2
      have H2 := hide (h2 b2 rfl)
      clear h1 h2
      go_enter Try.func106, Try.ntmps106
      go_wp2
      refine wp_loop_rounds 3 ?_
      rw [rounds_succ]
      go_wp2
      rw [rounds_succ]
      go_wp2_with fail
      refine H2.out.mono ?_
      rintro _ w' ⟨rfl, rfl⟩
      go_wp2
      rw [rounds_succ]
      go_wp2
      go_ret
      exact ⟨rfl, ret_int (by simp)⟩
  | some b1 =>
    rw [ptrO_some] at c1
    have H1 := hide (h1 b1 rfl)
    cases o2 with
    | none =>
      rw [ptrO_none] at c2
      clear h1 h2
      go_enter Try.func106, Try.ntmps106
      go_wp2
      refine wp_loop_rounds 3 ?_
      rw [rounds_succ]
      go_wp2_with fail
      refine H1.out.mono ?_
      rintro _ w' ⟨rfl, rfl⟩
      go_wp2
      rw [rounds_succ]
      go_wp2
      rw [rounds_succ]
      go_wp2
      go_ret
      exact ⟨rfl, ret_int (by simp)⟩
    | some b2 =>
      rw [ptrO_some] at c2
      have H2 := hide (h2 b2 rfl)
      clear h1 h2
      go_enter Try.func106, Try.ntmps106
      go_wp2
      refine wp_loop_rounds 3 ?_
      rw [rounds_succ]
      go_wp2_with fail
      refine H1.out.mono ?_
      rintro _ w' ⟨rfl, rfl⟩
      go_wp2
      rw [rounds_succ]
      go_wp2_with fail
      refine H2.out.mono ?_
      rintro _ w'' ⟨rfl, rfl⟩
      go_wp2
      rw [rounds_succ]
      go_wp2
      go_ret
      exact ⟨rfl, ret_int (by simp)⟩

theorem count_any (B : Nat → Option Nat) (v : Nat → Int) (w : World) (h : TrM w B v) :
    ∀ (k c b : Nat), k ≤ 8 → B c = some b → 512 ≤ c * 2 ^ (k + 1) → Calls Try.prog 106 #[ptrV b] w fun r w' => w' = w ∧ r = .returned (.int .i64 (cntB (fun d => (B d).isSome) k c))
  | 0, c, b, _, hb, hc => by
    have hz : ∀ d, 512 ≤ d → B d = none := fun d hd => by
      cases e : B d with
      | none => rfl
      | some x => have := (h.dom d x e).2; omega
    have e1 := hz (2 * c) (by simp at hc; omega)
    have e2 := hz (2 * c + 1) (by simp at hc; omega)
    have := count_node w b (v c) (B (2 * c)) (B (2 * c + 1)) 0 0 (h.c0 hb) (h.c1 hb) (h.c2 hb) (fun b1 e => by rw [e1] at e; cases e) (fun b1 e => by rw [e2] at e; cases e) (by omega) (by omega)
    rw [e1, e2] at this
    simpa [cntB] using this
  | k + 1, c, b, hk, hb, hc => by
    have hp : c * 2 ^ (k + 1 + 1) = 2 * c * 2 ^ (k + 1) := by rw [Nat.pow_succ 2 (k + 1), Nat.mul_comm (2 ^ (k + 1)) 2, ← Nat.mul_assoc, Nat.mul_comm c 2]
    have hp2 : 2 ^ k ≤ 2 ^ 8 := Nat.pow_le_pow_right (by omega) (by omega)
    have q1 := cntB_bd (fun d => (B d).isSome) k (2 * c)
    have q2 := cntB_bd (fun d => (B d).isSome) k (2 * c + 1)
    have hle : 2 * c * 2 ^ (k + 1) ≤ (2 * c + 1) * 2 ^ (k + 1) := Nat.mul_le_mul_right _ (by omega)
    have := count_node w b (v c) (B (2 * c)) (B (2 * c + 1)) (cntB (fun d => (B d).isSome) k (2 * c)) (cntB (fun d => (B d).isSome) k (2 * c + 1)) (h.c0 hb) (h.c1 hb) (h.c2 hb)
      (fun b1 e => count_any B v w h k (2 * c) b1 (by omega) e (by omega)) (fun b2 e => count_any B v w h k (2 * c + 1) b2 (by omega) e (by omega)) (by omega) (by omega)
    rw [cntB]
    exact this

-- the cells that routes need in a trie
def trieN (xs : List Ent) : Int := cntB (ndb xs) 8 1
theorem trieN_bd (xs : List Ent) : 1 ≤ trieN xs ∧ trieN xs ≤ 511 := by
  have := cntB_bd (ndb xs) 8 1
  unfold trieN
  simp at this
  omega

set_option maxHeartbeats 400000 in
theorem trCells_any (p : Nat) (xs : List Ent) (F : List Nat) (w : World) (hT : TrieF w p xs F) (hsx : Sorted xs) (hk : ∀ x ∈ xs, okE x) :
    Calls Try.prog 102 #[ptrV p] w fun r w' => w' = w ∧ r = .returned (.int .i64 (trieN xs)) := by
  obtain ⟨B, hM, hp, hx, hF⟩ := hT
  have hc := count_any B (vE xs) w hM 8 1 p (by omega) hp (by omega)
  have he : cntB (fun d => (B d).isSome) 8 1 = trieN xs := cntB_congr 8 1 (by omega) fun d hd => by
    rw [Bool.eq_iff_iff, ndb_iff hsx hk (by omega)]
    exact hx d hd
  rw [he] at hc
  have Hc := hide hc
  have hpl := hM.lt hp
  clear hM hx hF hc he
  go_enter Try.func102, Try.ntmps102
  go_wp2_with fail
  refine Hc.out.mono ?_
  rintro _ w' ⟨rfl, rfl⟩
  go_wp2
  go_ret
  exact ⟨rfl, rfl⟩

set_option maxHeartbeats 400000 in
theorem newTrie_any (w : World) :
    Calls Try.prog 26 #[] w fun r w' => Below w.heap.size w w' ∧ ∃ p F, TrieF w' p [] F ∧ (∀ k ∈ F, w.heap.size ≤ k) ∧ r = .returned (ptrV p) := by
  have fin := hide (show ∃ F, TrieF (w.alloc (.cells #[.int .i64 0, .pointer none, .pointer none] 87)) w.heap.size [] F ∧ (∀ k ∈ F, w.heap.size ≤ k) from by
    refine ⟨[w.heap.size], ⟨fun c => if c = 1 then some w.heap.size else none, ⟨fun c b hb => ?_, fun c d b hc hd => ?_, fun c b hc => ?_, fun c h1 hc => ?_, fun c hc => rfl⟩, rfl, fun c hc => ?_, fun b => ?_⟩, by simp⟩
    · try dsimp only at hb ⊢
      split at hb
      · rename_i e
        cases hb
        subst e
        exact World.alloc_heap_new w _
      · cases hb
    · try dsimp only at hc hd
      split at hc
      · split at hd
        · omega
        · cases hd
      · cases hc
    · try dsimp only at hc
      split at hc
      · omega
      · cases hc
    · try dsimp only
      exact ⟨if_neg (by omega), if_neg (by omega)⟩
    · try dsimp only
      rw [if_neg (by omega)]
      exact ⟨fun h => (by cases h), fun ⟨d, _, h⟩ => absurd rfl h⟩
    · try dsimp only
      constructor
      · intro h; exact ⟨1, by simp at h; simp [h]⟩
      · rintro ⟨c, h⟩
        split at h
        · cases h; simp
        · cases h)
  go_enter Try.func26, Try.ntmps26
  go_wp2
  go_ret
  obtain ⟨F, h1, h2⟩ := fin.out
  exact ⟨(by repeat (first | exact Below.refl _ _ | refine below_drewN ?_ _ | refine Below.drew ?_ | refine Below.trans ?_ (Below.mono (by assumption) (by first | omega | (simp; omega) | simp)) | refine Below.alloc ?_ (by first | omega | (simp; omega) | simp) _ | refine Below.setCell ?_ (by first | omega | (simp; omega) | simp) _)), w.heap.size, F, h1, h2, rfl⟩

end Go.Proofs.Ytkihifodifkieaa

import Derived.Test.YtkihifodifkieaaStr
import Derived.RangeFuncNested
import Derived.RangeFuncBound
import Derived.RangeFuncCalls
import Derived.RangeFuncLeaves
import Derived.Shelf.Abstract
import Derived.Shelf.RegionOpen
import Derived.OwnWalkIn
import Derived.TacticsInMore
import Derived.LoopNIn
import Derived.LoopIn
namespace Go.Proofs.Ytkihifodifkieaa
open Go.RowKit Go.Shelf

-- WHAT AN ITERATOR MAY DO BESIDE ITS ROUNDS: new blocks; and what is no cells and lies from B on may turn.
structure Soft (B : Nat) (A A' : World) : Prop where
  os : A'.os = A.os
  tape : A'.tape = A.tape
  output : A'.output = A.output
  size : A.heap.size ≤ A'.heap.size
  block : ∀ k o, A.heap[k]? = some o → (k < B ∨ o.isCells = true) → A'.heap[k]? = some o
theorem Soft.refl (B : Nat) (A : World) : Soft B A A := ⟨rfl, rfl, rfl, Nat.le_refl _, fun _ _ h _ => h⟩
theorem Soft.trans {B : Nat} {A A' A'' : World} (h : Soft B A A') (k : Soft B A' A'') : Soft B A A'' :=
  ⟨k.os.trans h.os, k.tape.trans h.tape, k.output.trans h.output, Nat.le_trans h.size k.size, fun i o hi ho => k.block i o (h.block i o hi ho) ho⟩
theorem Soft.mono {B B' : Nat} {A A' : World} (h : Soft B A A') (hB : B' ≤ B) : Soft B' A A' := ⟨h.os, h.tape, h.output, h.size, fun k o hk ho => h.block k o hk (ho.imp (fun h1 => by omega) id)⟩
theorem Soft.of_below {B : Nat} {A A' : World} (h : Below A.heap.size A A') : Soft B A A' :=
  ⟨h.os, h.tape, h.output, h.size, fun k _ hk _ => (h.block k (Array.getElem?_eq_some_iff.1 hk).1).trans hk⟩
theorem Soft.putObj {B : Nat} {A : World} {l : Nat} {o : Obj} (o' : Obj) (hl : A.heap[l]? = some o) (hB : B ≤ l) (ho : o.isCells = false) : Soft B A (A.putObj l o') :=
  ⟨rfl, rfl, rfl, by simp, fun k p hk hp => by
    have hkl : k ≠ l := by
      rintro rfl
      rw [hl] at hk
      cases hk
      rcases hp with h1 | h1
      · omega
      · rw [ho] at h1; cases h1
    exact (World.putObj_heap_other hkl).trans hk⟩
theorem Soft.cell {B : Nat} {A A' : World} (h : Soft B A A') {a : Addr} {v : Value} (hc : A.cell? a = some v) : A'.cell? a = some v := by
  unfold World.cell? at hc ⊢
  cases hk : A.heap[a.block]? with
  | none => rw [hk] at hc; cases hc
  | some o =>
    rw [hk] at hc
    cases o with
    | cells c t f => rw [h.block _ _ hk (.inr rfl)]; exact hc
    | _ => cases hc
theorem Soft.frozen {B : Nat} {A A' : World} (h : Soft B A A') {a : Addr} {v : Value} (hc : A.cell? a = some v) : A'.frozen? a = A.frozen? a := by
  unfold World.cell? at hc
  unfold World.frozen?
  cases hk : A.heap[a.block]? with
  | none => rw [hk] at hc; cases hc
  | some o =>
    rw [hk] at hc
    cases o with
    | cells c t f => rw [h.block _ _ hk (.inr rfl)]
    | _ => cases hc
-- the rounds keep what is no cells and lies from B on
def Firm (B : Nat) (W W' : World) : Prop := ∀ k o, B ≤ k → W.heap[k]? = some o → o.isCells = false → W'.heap[k]? = some o
theorem Firm.refl (B : Nat) (W : World) : Firm B W W := fun _ _ _ h _ => h
theorem Firm.trans {B : Nat} {X Y Z : World} (h : Firm B X Y) (k : Firm B Y Z) : Firm B X Z := fun i o hB hi ho => k i o hB (h i o hB hi ho) ho
theorem Firm.mono {B B' : Nat} {X Y : World} (h : Firm B X Y) (hB : B ≤ B') : Firm B' X Y := fun i o hi => h i o (by omega)
theorem Firm.putObj {B l : Nat} (W : World) (o : Obj) (hl : l < B) : Firm B W (W.putObj l o) := fun k _ hB hk _ => (World.putObj_heap_other (by omega)).trans hk
theorem Firm.of_only {B : Nat} {F : List Nat} {W W' : World} (h : Only F W W') (hF : ∀ k ∈ F, k < B ∨ ∃ c t f, W.heap[k]? = some (.cells c t f)) : Firm B W W' := fun k o hB hk ho =>
  (h.block k (Array.getElem?_eq_some_iff.1 hk).1 (fun hf => by
    rcases hF k hf with h1 | ⟨c, t, f, h1⟩
    · omega
    · rw [h1] at hk; cases hk; cases ho)).trans hk
theorem Firm.of_below {B : Nat} {W W' : World} (h : Below W.heap.size W W') : Firm B W W' := fun k _ _ hk _ => (h.block k (Array.getElem?_eq_some_iff.1 hk).1).trans hk
theorem Firm.setCell {B : Nat} (W : World) (a : Addr) (v : Value) : Firm B W (W.setCell a v) := fun k o _ hk ho => (KeepsOthers.setCell W a v).same k o hk ho
-- WHAT A ROUND MAY DO: it turns cells of its own alone
def KOwn (Own : World → Nat → Prop) (W W' : World) : Prop := W.heap.size ≤ W'.heap.size ∧ ∀ k o, W.heap[k]? = some o → o.isCells = true → ¬ Own W k → W'.heap[k]? = some o ∧ ¬ Own W' k
theorem KOwn.trans {Own : World → Nat → Prop} {A B C : World} (h : KOwn Own A B) (k : KOwn Own B C) : KOwn Own A C :=
  ⟨Nat.le_trans h.1 k.1, fun i o hi ho hn => let ⟨h1, h2⟩ := h.2 i o hi ho hn; k.2 i o h1 ho h2⟩
theorem KOwn.of_soft {Own : World → Nat → Prop} {B : Nat} {A A' : World} (h : Soft B A A') (hO : ∀ k, Own A' k → Own A k) : KOwn Own A A' :=
  ⟨h.size, fun k o hk ho hn => ⟨h.block k o hk (.inr ho), fun h1 => hn (hO k h1)⟩⟩

-- AN ITERATOR'S CONTRACT. F: the blocks that it reads between the rounds.
def SeqF {α : Type} (g : Nat) (lb : Array Value) (encs : α → Array Value) (F : List Nat) (S Sp : List α → Prop) (N : Nat) (w : World) : Prop :=
  ∀ (l : Nat) (Own : World → Nat → Prop) (J Jx : List α → World → Prop) (W : World), Below w.heap.size w W → (∀ k ∈ F, ¬ Own W k) →
    (∀ s A, J s A → ∀ k, Own A k → k < A.heap.size) → (∀ s A B, J s A → Soft W.heap.size A B → J s B ∧ ∀ k, Own B k → Own A k) → (∀ s A B, Jx s A → Soft W.heap.size A B → Jx s B) →
    (∀ pre x W1, J pre W1 → pre.length < N → YieldAt Fence.wide 4 Try.prog l (encs x) W1 fun e W' =>
      (e = .returned (.bool true) ∧ J (pre ++ [x]) W' ∧ KOwn Own W1 W' ∧ Firm W.heap.size W1 W') ∨ (e = .returned (.bool false) ∧ Jx (pre ++ [x]) W' ∧ Firm W.heap.size W1 W')) →
    J [] W →
    CallsIn Fence.wide 5 Try.prog g (#[.func (.yield l) #[] #[]] ++ lb) W fun e W' => (∃ v, e = .returned v) ∧ ((∃ xs, S xs ∧ J xs W') ∨ (∃ pre, Sp pre ∧ Jx pre W'))

-- how a round's body may be left
def RoundQ {α : Type} (B : Nat) (Own : World → Nat → Prop) (I : List α → World → Prop) (Ix : Code → List α → World → Prop) (xs : List α) (W : World) : Exit → Act → World → Prop
  | .normal, _, W' => Firm B W W' ∧ KOwn Own W W' ∧ I xs W'
  | .ret, _, W' => Firm B W W' ∧ Ix .ret xs W'
  | .exit id, _, W' => Firm B W W' ∧ Ix (.exit id) xs W'
  | .goto t, _, W' => Firm B W W' ∧ Ix (.goto t) xs W'
  | .panic _, _, _ => False
  | .outgrown, _, _ => False

-- THE STATEMENT 'for x := range g { .. }', outermost in its function.
theorem range_law {α : Type} {g : Operand} {ps : Array Tmp} {assign body : Code} {Q : Exit → Act → World → Prop} {a : Act} {w : World} {gf : Nat} {lb : Array Value}
    (hg : a.eval g = .func (.func gf) #[] lb) (eg : ∀ args w, (callFunc gf args).run Try.prog w = .ok (.enter gf args) w)
    {encs : α → Array Value} {F : List Nat} {S Sp : List α → Prop} {N : Nat} {w0 : World} (hseq : SeqF gf lb encs F S Sp N w0) (hb0 : Below w0.heap.size w0 w) (hps : ∀ x, (encs x).size = ps.size)
    (Own : World → Nat → Prop) (I : List α → World → Prop) (Ix : Code → List α → World → Prop) (hF : ∀ k ∈ F, ¬ Own w k)
    (hOl : ∀ s A, I s A → ∀ k, Own A k → k < A.heap.size) (hI : ∀ s A B, I s A → Soft w.heap.size A B → I s B ∧ ∀ k, Own B k → Own A k) (hIx : ∀ c s A B, Ix c s A → Soft w.heap.size A B → Ix c s B) (h0 : I [] w)
    (hround : ∀ (l : Nat) (pre : List α) (x : α) (W : World), w.heap.size < l → l < W.heap.size → I pre W → pre.length < N →
      assign.wpIn (Fence.wide.inRound l) 4 Try.prog (Exit.then (fun a1 W1 => Soft w.heap.size W W1 ∧ Firm w.heap.size W W1 ∧ ∀ W2, Soft w.heap.size W1 W2 →
        body.wpIn (Fence.wide.inRound l) 4 Try.prog (RoundQ w.heap.size Own I Ix (pre ++ [x]) W2) a1 W2) (fun _ _ _ => False))
        { tmps := (ps.zip (encs x)).foldl (fun t (p, v) => t.setIfInBounds p v) a.tmps, defers := [] } W)
    (hdone : ∀ (D : Nat) (xs : List α) (W : World), w.heap.size ≤ D → S xs → I xs W → W.heap[D]? = some (.deferred (some [])) → Q .normal { a with defers := { target := .collected D, args := #[] } :: a.defers } W)
    (hstop : ∀ (D : Nat) (c : Code) (pre : List α) (W : World), w.heap.size ≤ D → Sp pre → Ix c pre W → W.heap[D]? = some (.deferred (some [])) → c.wpIn Fence.wide 5 Try.prog Q { a with defers := { target := .collected D, args := #[] } :: a.defers } W) :
    (Code.rangeFunc g ps assign body).wpIn Fence.wide 5 Try.prog Q a w := by
  refine wpIn_rangeFunc ?_
  intro fn hfn
  -- the loop's record
  let rec0 : LoopState → Option Code → Loop := fun st pe => { state := st, pending := pe, fn, tmps := a.tmps, params := ps, assign, body, defers := w.heap.size }
  obtain ⟨W1, hW1⟩ : ∃ W1, W1 = (w.alloc (.deferred (some []))).alloc (.loop (rec0 .ready none)) := ⟨_, rfl⟩
  have hsz : W1.heap.size = w.heap.size + 1 + 1 := by rw [hW1]; simp
  have hBw : Below w.heap.size w W1 := by rw [hW1]; exact ((Below.refl _ w).alloc (Nat.le_refl _) _).alloc (by simp) _
  have hL1 : W1.heap[w.heap.size + 1]? = some (.loop (rec0 .ready none)) := by
    rw [hW1]; have := World.alloc_heap_new (w.alloc (.deferred (some []))) (.loop (rec0 .ready none)); rwa [World.size_alloc] at this
  have hD1 : W1.heap[w.heap.size]? = some (.deferred (some [])) := by
    rw [hW1]; exact (Below.heap_alloc _ _ _ (by simp)).trans (World.alloc_heap_new w _)
  obtain ⟨hI1, hO1⟩ := hI [] w W1 h0 (Soft.of_below hBw)
  refine ⟨w.heap.size + 1, [{ target := .collected w.heap.size, args := #[] }], W1, { target := .fn (.func gf) lb, args := #[.func (.yield (w.heap.size + 1)) #[] #[]] }, W1, gf, #[.func (.yield (w.heap.size + 1)) #[] #[]] ++ lb, W1, ?_, ?_, ?_, ?_, (fun h => by cases h), ?_⟩
  · rw [hW1]; exact run_enterLoop_outer _ _ _ _ _
  · simp only [resolve, hg]
    simp [go_sem]
  · exact fun _ _ => trivial
  · simp [invoke, go_sem, eg]
  · refine callsIn_wide.2 ((callsIn_wide (n := 5)).1 ?_)
    refine (hseq (w.heap.size + 1) Own
      (fun pre W => I pre W ∧ W.heap[w.heap.size + 1]? = some (.loop (rec0 .ready none)) ∧ W.heap[w.heap.size]? = some (.deferred (some [])))
      (fun pre W => ∃ c, Ix c pre W ∧ W.heap[w.heap.size + 1]? = some (.loop (rec0 .done (some c))) ∧ W.heap[w.heap.size]? = some (.deferred (some [])))
      W1 (hb0.trans (hBw.mono hb0.size)) (fun k hk h1 => hF k hk (hO1 k h1)) (fun s A h k hk => hOl s A h.1 k hk) ?_ ?_ ?_ ⟨hI1, hL1, hD1⟩).mono ?_
    · rintro s A B ⟨h1, h2, h3⟩ hs
      obtain ⟨h4, h5⟩ := hI s A B h1 (hs.mono (by omega))
      exact ⟨⟨h4, hs.block _ _ h2 (.inl (by omega)), hs.block _ _ h3 (.inl (by omega))⟩, h5⟩
    · rintro s A B ⟨c, h1, h2, h3⟩ hs
      exact ⟨c, hIx c s A B h1 (hs.mono (by omega)), hs.block _ _ h2 (.inl (by omega)), hs.block _ _ h3 (.inl (by omega))⟩
    · rintro pre x W ⟨hi, hl, hk⟩ hlen
      have hlt : w.heap.size + 1 < W.heap.size := (Array.getElem?_eq_some_iff.1 hl).1
      have hy := run_yield (P := Try.prog) (args := encs x) hl (hps x)
      refine ⟨fn, _, assign, body, hy, roundIn_of_wpIn hfn ?_⟩
      refine wpIn_mono (hround (w.heap.size + 1) pre x W (by omega) hlt hi hlen) ?_
      intro e a1 Wa hq
      cases e with
      | normal =>
        obtain ⟨hsa, hfa, hbody⟩ := hq
        have hla := hfa _ _ (by omega) hl rfl
        have hka := hfa _ _ (Nat.le_refl _) hk rfl
        refine ⟨_, run_beginRound hla rfl, ?_⟩
        have hs2 : Soft w.heap.size Wa (Wa.putObj (w.heap.size + 1) (.loop { rec0 .ready none with state := .busy })) := Soft.putObj _ hla (by omega) rfl
        have hl2 : (Wa.putObj (w.heap.size + 1) (.loop { rec0 .ready none with state := .busy })).heap[w.heap.size + 1]? = some (.loop { rec0 .ready none with state := .busy }) := World.putObj_heap_same (Array.getElem?_eq_some_iff.1 hla).1
        have hk2 : (Wa.putObj (w.heap.size + 1) (.loop { rec0 .ready none with state := .busy })).heap[w.heap.size]? = some (.deferred (some [])) := (World.putObj_heap_other (by omega)).trans hka
        obtain ⟨hia, hoa⟩ := hI pre W Wa hi hsa
        obtain ⟨_, ho2⟩ := hI pre Wa _ hia hs2
        have hK2 : KOwn Own W (Wa.putObj (w.heap.size + 1) (.loop { rec0 .ready none with state := .busy })) := (KOwn.of_soft hsa hoa).trans (KOwn.of_soft hs2 ho2)
        refine wpIn_mono (hbody _ hs2) ?_
        have fin : ∀ (jump : Option Code) (W3 : World), Firm w.heap.size (Wa.putObj (w.heap.size + 1) (.loop { rec0 .ready none with state := .busy })) W3 →
            (Instr.endRound (w.heap.size + 1) jump).run Try.prog W3 = .ok (.bool jump.isNone) (W3.putObj (w.heap.size + 1) (.loop (rec0 (if jump.isNone then .ready else .done) jump))) ∧
            Soft w.heap.size W3 (W3.putObj (w.heap.size + 1) (.loop (rec0 (if jump.isNone then .ready else .done) jump))) ∧
            (W3.putObj (w.heap.size + 1) (.loop (rec0 (if jump.isNone then .ready else .done) jump))).heap[w.heap.size + 1]? = some (.loop (rec0 (if jump.isNone then .ready else .done) jump)) ∧
            (W3.putObj (w.heap.size + 1) (.loop (rec0 (if jump.isNone then .ready else .done) jump))).heap[w.heap.size]? = some (.deferred (some [])) := fun jump W3 hk3 => by
          have hl3 := hk3 _ _ (by omega) hl2 rfl
          exact ⟨run_endRound (P := Try.prog) jump hl3, Soft.putObj _ hl3 (by omega) rfl, World.putObj_heap_same (Array.getElem?_eq_some_iff.1 hl3).1, (World.putObj_heap_other (by omega)).trans (hk3 _ _ (Nat.le_refl _) hk2 rfl)⟩
        have hF2 : Firm W1.heap.size W (Wa.putObj (w.heap.size + 1) (.loop { rec0 .ready none with state := .busy })) := (hfa.mono (by omega)).trans (Firm.putObj _ _ (by omega))
        have hF4 : ∀ W3 o, Firm w.heap.size (Wa.putObj (w.heap.size + 1) (.loop { rec0 .ready none with state := .busy })) W3 → Firm W1.heap.size W (W3.putObj (w.heap.size + 1) o) := fun W3 o h => (hF2.trans (h.mono (by omega))).trans (Firm.putObj _ _ (by omega))
        intro e a3 W3 hp
        cases e with
        | normal =>
          obtain ⟨hf3, hk3, hi3⟩ := hp
          obtain ⟨hr, hs3, hl4, hk4⟩ := fin none W3 hf3
          obtain ⟨hi4, ho4⟩ := hI _ _ _ hi3 hs3
          exact ⟨_, _, hr, .inl ⟨rfl, ⟨hi4, hl4, hk4⟩, (hK2.trans hk3).trans (KOwn.of_soft hs3 ho4), hF4 W3 _ hf3⟩⟩
        | ret =>
          obtain ⟨hf3, hi3⟩ := hp
          obtain ⟨hr, hs3, hl4, hk4⟩ := fin (some .ret) W3 hf3
          exact ⟨_, _, hr, .inr ⟨rfl, ⟨.ret, hIx _ _ _ _ hi3 hs3, hl4, hk4⟩, hF4 W3 _ hf3⟩⟩
        | exit id =>
          obtain ⟨hf3, hi3⟩ := hp
          obtain ⟨hr, hs3, hl4, hk4⟩ := fin (some (.exit id)) W3 hf3
          exact ⟨_, _, hr, .inr ⟨rfl, ⟨.exit id, hIx _ _ _ _ hi3 hs3, hl4, hk4⟩, hF4 W3 _ hf3⟩⟩
        | goto t =>
          obtain ⟨hf3, hi3⟩ := hp
          obtain ⟨hr, hs3, hl4, hk4⟩ := fin (some (.goto t)) W3 hf3
          exact ⟨_, _, hr, .inr ⟨rfl, ⟨.goto t, hIx _ _ _ _ hi3 hs3, hl4, hk4⟩, hF4 W3 _ hf3⟩⟩
        | panic ch => exact hp.elim
        | outgrown => exact hp.elim
      | _ => exact hq.elim
    · rintro e W2 ⟨⟨v, rfl⟩, (⟨xs, hS, hi, hl, hk⟩ | ⟨pre, hSp, c, hi, hl, hk⟩)⟩
      · refine ⟨none, _, run_endLoop (P := Try.prog) hl (by simp [rec0]), ?_⟩
        exact hdone _ xs _ (Nat.le_refl _) hS (hI _ _ _ hi (Soft.putObj _ hl (by omega) rfl)).1 ((World.putObj_heap_other (by omega)).trans hk)
      · refine ⟨some c, _, run_endLoop (P := Try.prog) hl (by simp [rec0]), ?_⟩
        exact hstop _ c pre _ (Nat.le_refl _) hSp (hIx _ _ _ _ hi (Soft.putObj _ hl (by omega) rfl)) ((World.putObj_heap_other (by omega)).trans hk)

end Go.Proofs.Ytkihifodifkieaa

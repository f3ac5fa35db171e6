import Derived.Test.YtglbamalagacgaaGreatA4
import Derived.RangeFuncNested
import Derived.RangeFuncBound
import Derived.RangeFuncCalls
import Derived.RangeFuncLeaves
import Derived.Shelf.Abstract
import Derived.Shelf.RegionOpen
import Derived.OwnWalkIn
import Derived.TacticsInMore
import Derived.LoopNIn
import Derived.LoopIn
import Derived.Laws.EntriesVeiled
namespace Go.Proofs.YtglbamalagacgaaGreat
open Go.RowKit Go.Shelf
structure Soft (B : Nat) (A A' : World) : Prop where
 os : A'.os = A.os
 tape : A'.tape = A.tape
 output : A'.output = A.output
 size : A.heap.size <= A'.heap.size
 block : ∀ k o, A.heap[k]? = some o -> (k < B ∨ o.isCells = true) -> A'.heap[k]? = some o
theorem Soft.refl (B : Nat) (A : World) : Soft B A A := ⟨rfl, rfl, rfl, Nat.le_refl _, fun _ _ h _ => h⟩
theorem Soft.trans {B : Nat} {A A' A'' : World} (h : Soft B A A') (k : Soft B A' A'') : Soft B A A'' :=
 ⟨k.os.trans h.os, k.tape.trans h.tape, k.output.trans h.output, Nat.le_trans h.size k.size, fun i o hi ho => k.block i o (h.block i o hi ho) ho⟩
theorem Soft.mono {B B' : Nat} {A A' : World} (h : Soft B A A') (hB : B' <= B) : Soft B' A A' := ⟨h.os, h.tape, h.output, h.size, fun k o hk ho => h.block k o hk (ho.imp (fun h1 => by omega) id)⟩
theorem Soft.of_below {B : Nat} {A A' : World} (h : Below A.heap.size A A') : Soft B A A' :=
 ⟨h.os, h.tape, h.output, h.size, fun k _ hk _ => (h.block k (Array.getElem?_eq_some_iff.1 hk).1).trans hk⟩
theorem Soft.putObj {B : Nat} {A : World} {l : Nat} {o : Obj} (o' : Obj) (hl : A.heap[l]? = some o) (hB : B <= l) (ho : o.isCells = false) : Soft B A (A.putObj l o') :=
 ⟨rfl, rfl, rfl, by simp, fun k p hk hp => by
  have hkl : k ≠ l := by
   rintro rfl
   rw [hl] at hk
   cases hk
   rcases hp with h1 | h1
   ·omega
   ·rw [ho] at h1; cases h1
  exact (World.putObj_heap_other hkl).trans hk⟩
theorem Soft.cell {B : Nat} {A A' : World} (h : Soft B A A') {a : Addr} {v : Value} (hc : A.cell? a = some v) : A'.cell? a = some v := by
 unfold World.cell? at hc ⊢
 cases hk : A.heap[a.block]? with
 | none => rw [hk] at hc; cases hc
 | some o =>
  rw [hk] at hc
  cases o with
  | cells c t f => rw [h.block _ _ hk (.inr rfl)]; exact hc
  | _ => cases hc
def Firm (B : Nat) (W W' : World) : Prop := ∀ k o, B <= k -> W.heap[k]? = some o -> o.isCells = false -> W'.heap[k]? = some o
theorem Firm.refl (B : Nat) (W : World) : Firm B W W := fun _ _ _ h _ => h
theorem Firm.trans {B : Nat} {X Y Z : World} (h : Firm B X Y) (k : Firm B Y Z) : Firm B X Z := fun i o hB hi ho => k i o hB (h i o hB hi ho) ho
theorem Firm.mono {B B' : Nat} {X Y : World} (h : Firm B X Y) (hB : B <= B') : Firm B' X Y := fun i o hi => h i o (by omega)
theorem Firm.putObj {B l : Nat} (W : World) (o : Obj) (hl : l < B) : Firm B W (W.putObj l o) := fun k _ hB hk _ => (World.putObj_heap_other (by omega)).trans hk
theorem Firm.of_only {B : Nat} {F : List Nat} {W W' : World} (h : Only F W W') (hF : ∀ k ∈ F, k < B ∨ ∃ c t f, W.heap[k]? = some (.cells c t f)) : Firm B W W' := fun k o hB hk ho =>
 (h.block k (Array.getElem?_eq_some_iff.1 hk).1 (fun hf => by
  rcases hF k hf with h1 | ⟨c, t, f, h1⟩
  ·omega
  ·rw [h1] at hk; cases hk; cases ho)).trans hk
theorem Firm.of_below {B : Nat} {W W' : World} (h : Below W.heap.size W W') : Firm B W W' := fun k _ _ hk _ => (h.block k (Array.getElem?_eq_some_iff.1 hk).1).trans hk
theorem Firm.setCell {B : Nat} (W : World) (a : Addr) (v : Value) : Firm B W (W.setCell a v) := fun k o _ hk ho => (KeepsOthers.setCell W a v).same k o hk ho
def KOwn (Own : World -> Nat -> Prop) (W W' : World) : Prop := W.heap.size <= W'.heap.size /\ ∀ k o, W.heap[k]? = some o -> o.isCells = true -> ¬ Own W k -> W'.heap[k]? = some o /\ ¬ Own W' k
theorem KOwn.trans {Own : World -> Nat -> Prop} {A B C : World} (h : KOwn Own A B) (k : KOwn Own B C) : KOwn Own A C :=
 ⟨Nat.le_trans h.1 k.1, fun i o hi ho hn => let ⟨h1, h2⟩ := h.2 i o hi ho hn; k.2 i o h1 ho h2⟩
theorem KOwn.of_soft {Own : World -> Nat -> Prop} {B : Nat} {A A' : World} (h : Soft B A A') (hO : ∀ k, Own A' k -> Own A k) : KOwn Own A A' :=
 ⟨h.size, fun k o hk ho hn => ⟨h.block k o hk (.inr ho), fun h1 => hn (hO k h1)⟩⟩
def SeqF {α : Type} (g : Nat) (lb : Array Value) (encs : α -> Array Value) (F : List Nat) (S Sp : List α -> Prop) (N : Nat) (w : World) : Prop :=
 ∀ (l : Nat) (Own : World -> Nat -> Prop) (J Jx : List α -> World -> Prop) (W : World), Below w.heap.size w W -> (∀ k ∈ F, ¬ Own W k) →
  (∀ s A, J s A -> ∀ k, Own A k -> k < A.heap.size) -> (∀ s A B, J s A -> Soft W.heap.size A B -> J s B /\ ∀ k, Own B k -> Own A k) -> (∀ s A B, Jx s A -> Soft W.heap.size A B -> Jx s B) →
  (∀ pre x W1, J pre W1 -> pre.length < N -> YieldAt Fence.wide 4 Tryz.prog l (encs x) W1 fun e W' =>
   (e = .returned (.bool true) /\ J (pre ++ [x]) W' /\ KOwn Own W1 W' /\ Firm W.heap.size W1 W') ∨ (e = .returned (.bool false) /\ Jx (pre ++ [x]) W' /\ Firm W.heap.size W1 W')) →
  J [] W →
  CallsIn Fence.wide 5 Tryz.prog g (#[.func (.yield l) #[] #[]] ++ lb) W fun e W' => (∃ v, e = .returned v) /\ ((∃ xs, S xs /\ J xs W') ∨ (∃ pre, Sp pre /\ Jx pre W'))
def RoundQ {α : Type} (B : Nat) (Own : World -> Nat -> Prop) (I : List α -> World -> Prop) (Ix : Code -> List α -> World -> Prop) (xs : List α) (W : World) : Exit -> Act -> World -> Prop
 | .normal, _, W' => Firm B W W' /\ KOwn Own W W' /\ I xs W'
 | .ret, _, W' => Firm B W W' /\ Ix .ret xs W'
 | .exit id, _, W' => Firm B W W' /\ Ix (.exit id) xs W'
 | .goto t, _, W' => Firm B W W' /\ Ix (.goto t) xs W'
 | .panic _, _, _ => False
 | .outgrown, _, _ => False
theorem range_law {α : Type} {g : Operand} {ps : Array Tmp} {assign body : Code} {Q : Exit -> Act -> World -> Prop} {a : Act} {w : World} {gf : Nat} {lb : Array Value}
  (hg : a.eval g = .func (.func gf) #[] lb) (eg : ∀ args w, (callFunc gf args).run Tryz.prog w = .ok (.enter gf args) w)
  {encs : α -> Array Value} {F : List Nat} {S Sp : List α -> Prop} {N : Nat} {w0 : World} (hseq : SeqF gf lb encs F S Sp N w0) (hb0 : Below w0.heap.size w0 w) (hps : ∀ x, (encs x).size = ps.size)
  (Own : World -> Nat -> Prop) (I : List α -> World -> Prop) (Ix : Code -> List α -> World -> Prop) (hF : ∀ k ∈ F, ¬ Own w k)
  (hOl : ∀ s A, I s A -> ∀ k, Own A k -> k < A.heap.size) (hI : ∀ s A B, I s A -> Soft w.heap.size A B -> I s B /\ ∀ k, Own B k -> Own A k) (hIx : ∀ c s A B, Ix c s A -> Soft w.heap.size A B -> Ix c s B) (h0 : I [] w)
  (hround : ∀ (l : Nat) (pre : List α) (x : α) (W : World), w.heap.size < l -> l < W.heap.size -> I pre W -> pre.length < N →
   assign.wpIn (Fence.wide.inRound l) 4 Tryz.prog (Exit.then (fun a1 W1 => Soft w.heap.size W W1 /\ Firm w.heap.size W W1 /\ ∀ W2, Soft w.heap.size W1 W2 →
    body.wpIn (Fence.wide.inRound l) 4 Tryz.prog (RoundQ w.heap.size Own I Ix (pre ++ [x]) W2) a1 W2) (fun _ _ _ => False))
    { tmps := (ps.zip (encs x)).foldl (fun t (p, v) => t.setIfInBounds p v) a.tmps, defers := [] } W)
  (hdone : ∀ (D : Nat) (xs : List α) (W : World), w.heap.size <= D -> S xs -> I xs W -> W.heap[D]? = some (.deferred (some [])) -> Q .normal { a with defers := { target := .collected D, args := #[] } :: a.defers } W)
  (hstop : ∀ (D : Nat) (c : Code) (pre : List α) (W : World), w.heap.size <= D -> Sp pre -> Ix c pre W -> W.heap[D]? = some (.deferred (some [])) -> c.wpIn Fence.wide 5 Tryz.prog Q { a with defers := { target := .collected D, args := #[] } :: a.defers } W) :
  (Code.rangeFunc g ps assign body).wpIn Fence.wide 5 Tryz.prog Q a w := by
 refine wpIn_rangeFunc ?_
 intro fn hfn
 -- the loop's record
 let rec0 : LoopState -> Option Code -> Loop := fun st pe => { state := st, pending := pe, fn, tmps := a.tmps, params := ps, assign, body, defers := w.heap.size }
 obtain ⟨W1, hW1⟩ : ∃ W1, W1 = (w.alloc (.deferred (some []))).alloc (.loop (rec0 .ready none)) := ⟨_, rfl⟩
 have hsz : W1.heap.size = w.heap.size + 1 + 1 := by rw [hW1]; simp
 have hBw : Below w.heap.size w W1 := by rw [hW1]; exact ((Below.refl _ w).alloc (Nat.le_refl _) _).alloc (by simp) _
 have hL1 : W1.heap[w.heap.size + 1]? = some (.loop (rec0 .ready none)) := by
  rw [hW1]; have := World.alloc_heap_new (w.alloc (.deferred (some []))) (.loop (rec0 .ready none)); rwa [World.size_alloc] at this
 have hD1 : W1.heap[w.heap.size]? = some (.deferred (some [])) := by
  rw [hW1]; exact (Below.heap_alloc _ _ _ (by simp)).trans (World.alloc_heap_new w _)
 obtain ⟨hI1, hO1⟩ := hI [] w W1 h0 (Soft.of_below hBw)
 refine ⟨w.heap.size + 1, [{ target := .collected w.heap.size, args := #[] }], W1, { target := .fn (.func gf) lb, args := #[.func (.yield (w.heap.size + 1)) #[] #[]] }, W1, gf, #[.func (.yield (w.heap.size + 1)) #[] #[]] ++ lb, W1, ?_, ?_, ?_, ?_, (fun h => by cases h), ?_⟩
 ·rw [hW1]; exact run_enterLoop_outer _ _ _ _ _
 ·simp only [resolve, hg]
  simp [go_sem]
 ·exact fun _ _ => trivial
 ·simp [invoke, go_sem, eg]
 ·refine callsIn_wide.2 ((callsIn_wide (n := 5)).1 ?_)
  refine (hseq (w.heap.size + 1) Own
   (fun pre W => I pre W /\ W.heap[w.heap.size + 1]? = some (.loop (rec0 .ready none)) /\ W.heap[w.heap.size]? = some (.deferred (some [])))
   (fun pre W => ∃ c, Ix c pre W /\ W.heap[w.heap.size + 1]? = some (.loop (rec0 .done (some c))) /\ W.heap[w.heap.size]? = some (.deferred (some [])))
   W1 (hb0.trans (hBw.mono hb0.size)) (fun k hk h1 => hF k hk (hO1 k h1)) (fun s A h k hk => hOl s A h.1 k hk) ?_ ?_ ?_ ⟨hI1, hL1, hD1⟩).mono ?_
  ·rintro s A B ⟨h1, h2, h3⟩ hs
   obtain ⟨h4, h5⟩ := hI s A B h1 (hs.mono (by omega))
   exact ⟨⟨h4, hs.block _ _ h2 (.inl (by omega)), hs.block _ _ h3 (.inl (by omega))⟩, h5⟩
  ·rintro s A B ⟨c, h1, h2, h3⟩ hs
   exact ⟨c, hIx c s A B h1 (hs.mono (by omega)), hs.block _ _ h2 (.inl (by omega)), hs.block _ _ h3 (.inl (by omega))⟩
  ·rintro pre x W ⟨hi, hl, hk⟩ hlen
   have hlt : w.heap.size + 1 < W.heap.size := (Array.getElem?_eq_some_iff.1 hl).1
   have hy := run_yield (P := Tryz.prog) (args := encs x) hl (hps x)
   refine ⟨fn, _, assign, body, hy, roundIn_of_wpIn hfn ?_⟩
   refine wpIn_mono (hround (w.heap.size + 1) pre x W (by omega) hlt hi hlen) ?_
   intro e a1 Wa hq
   cases e with
   | normal =>
    obtain ⟨hsa, hfa, hbody⟩ := hq
    have hla := hfa _ _ (by omega) hl rfl
    have hka := hfa _ _ (Nat.le_refl _) hk rfl
    refine ⟨_, run_beginRound hla rfl, ?_⟩
    have hs2 : Soft w.heap.size Wa (Wa.putObj (w.heap.size + 1) (.loop { rec0 .ready none with state := .busy })) := Soft.putObj _ hla (by omega) rfl
    have hl2 : (Wa.putObj (w.heap.size + 1) (.loop { rec0 .ready none with state := .busy })).heap[w.heap.size + 1]? = some (.loop { rec0 .ready none with state := .busy }) := World.putObj_heap_same (Array.getElem?_eq_some_iff.1 hla).1
    have hk2 : (Wa.putObj (w.heap.size + 1) (.loop { rec0 .ready none with state := .busy })).heap[w.heap.size]? = some (.deferred (some [])) := (World.putObj_heap_other (by omega)).trans hka
    obtain ⟨hia, hoa⟩ := hI pre W Wa hi hsa
    obtain ⟨_, ho2⟩ := hI pre Wa _ hia hs2
    have hK2 : KOwn Own W (Wa.putObj (w.heap.size + 1) (.loop { rec0 .ready none with state := .busy })) := (KOwn.of_soft hsa hoa).trans (KOwn.of_soft hs2 ho2)
    refine wpIn_mono (hbody _ hs2) ?_
    have fin : ∀ (jump : Option Code) (W3 : World), Firm w.heap.size (Wa.putObj (w.heap.size + 1) (.loop { rec0 .ready none with state := .busy })) W3 →
      (Instr.endRound (w.heap.size + 1) jump).run Tryz.prog W3 = .ok (.bool jump.isNone) (W3.putObj (w.heap.size + 1) (.loop (rec0 (if jump.isNone then .ready else .done) jump))) ∧
      Soft w.heap.size W3 (W3.putObj (w.heap.size + 1) (.loop (rec0 (if jump.isNone then .ready else .done) jump))) ∧
      (W3.putObj (w.heap.size + 1) (.loop (rec0 (if jump.isNone then .ready else .done) jump))).heap[w.heap.size + 1]? = some (.loop (rec0 (if jump.isNone then .ready else .done) jump)) ∧
      (W3.putObj (w.heap.size + 1) (.loop (rec0 (if jump.isNone then .ready else .done) jump))).heap[w.heap.size]? = some (.deferred (some [])) := fun jump W3 hk3 => by
     have hl3 := hk3 _ _ (by omega) hl2 rfl
     exact ⟨run_endRound (P := Tryz.prog) jump hl3, Soft.putObj _ hl3 (by omega) rfl, World.putObj_heap_same (Array.getElem?_eq_some_iff.1 hl3).1, (World.putObj_heap_other (by omega)).trans (hk3 _ _ (Nat.le_refl _) hk2 rfl)⟩
    have hF2 : Firm W1.heap.size W (Wa.putObj (w.heap.size + 1) (.loop { rec0 .ready none with state := .busy })) := (hfa.mono (by omega)).trans (Firm.putObj _ _ (by omega))
    have hF4 : ∀ W3 o, Firm w.heap.size (Wa.putObj (w.heap.size + 1) (.loop { rec0 .ready none with state := .busy })) W3 -> Firm W1.heap.size W (W3.putObj (w.heap.size + 1) o) := fun W3 o h => (hF2.trans (h.mono (by omega))).trans (Firm.putObj _ _ (by omega))
    intro e a3 W3 hp
    cases e with
    | normal =>
     obtain ⟨hf3, hk3, hi3⟩ := hp
     obtain ⟨hr, hs3, hl4, hk4⟩ := fin none W3 hf3
     obtain ⟨hi4, ho4⟩ := hI _ _ _ hi3 hs3
     exact ⟨_, _, hr, .inl ⟨rfl, ⟨hi4, hl4, hk4⟩, (hK2.trans hk3).trans (KOwn.of_soft hs3 ho4), hF4 W3 _ hf3⟩⟩
    | ret =>
     obtain ⟨hf3, hi3⟩ := hp
     obtain ⟨hr, hs3, hl4, hk4⟩ := fin (some .ret) W3 hf3
     exact ⟨_, _, hr, .inr ⟨rfl, ⟨.ret, hIx _ _ _ _ hi3 hs3, hl4, hk4⟩, hF4 W3 _ hf3⟩⟩
    | exit id =>
     obtain ⟨hf3, hi3⟩ := hp
     obtain ⟨hr, hs3, hl4, hk4⟩ := fin (some (.exit id)) W3 hf3
     exact ⟨_, _, hr, .inr ⟨rfl, ⟨.exit id, hIx _ _ _ _ hi3 hs3, hl4, hk4⟩, hF4 W3 _ hf3⟩⟩
    | goto t =>
     obtain ⟨hf3, hi3⟩ := hp
     obtain ⟨hr, hs3, hl4, hk4⟩ := fin (some (.goto t)) W3 hf3
     exact ⟨_, _, hr, .inr ⟨rfl, ⟨.goto t, hIx _ _ _ _ hi3 hs3, hl4, hk4⟩, hF4 W3 _ hf3⟩⟩
    | panic ch => exact hp.elim
    | outgrown => exact hp.elim
   | _ => exact hq.elim
  ·rintro e W2 ⟨⟨v, rfl⟩, (⟨xs, hS, hi, hl, hk⟩ | ⟨pre, hSp, c, hi, hl, hk⟩)⟩
   ·refine ⟨none, _, run_endLoop (P := Tryz.prog) hl (by simp [rec0]), ?_⟩
    exact hdone _ xs _ (Nat.le_refl _) hS (hI _ _ _ hi (Soft.putObj _ hl (by omega) rfl)).1 ((World.putObj_heap_other (by omega)).trans hk)
   ·refine ⟨some c, _, run_endLoop (P := Tryz.prog) hl (by simp [rec0]), ?_⟩
    exact hstop _ c pre _ (Nat.le_refl _) hSp (hIx _ _ _ _ hi (Soft.putObj _ hl (by omega) rfl)) ((World.putObj_heap_other (by omega)).trans hk)
end Go.Proofs.YtglbamalagacgaaGreat

namespace Go.Proofs.YtglbamalagacgaaGreat
open Go.RowKit Go.Shelf
def Safe (Own : World -> Nat -> Prop) (F : List Nat) (W W' : World) : Prop := ∀ k ∈ F, ¬ Own W' k /\ W'.heap[k]? = W.heap[k]?
theorem Safe.soft {Own : World -> Nat -> Prop} {F : List Nat} {B : Nat} {W W' W'' : World} (h : Safe Own F W W') (hF : ∀ k ∈ F, ∃ o, W.heap[k]? = some o /\ o.isCells = true) (hs : Soft B W' W'') (hO : ∀ k, Own W'' k -> Own W' k) : Safe Own F W W'' := fun k hk => by
 obtain ⟨h1, h2⟩ := h k hk
 obtain ⟨o, ho, hc⟩ := hF k hk
 exact ⟨fun h3 => h1 (hO k h3), (hs.block k o (h2.trans ho) (.inr hc)).trans ho.symm⟩
theorem Safe.own {Own : World -> Nat -> Prop} {F : List Nat} {W W' W'' : World} (h : Safe Own F W W') (hF : ∀ k ∈ F, ∃ o, W.heap[k]? = some o /\ o.isCells = true) (hs : KOwn Own W' W'') : Safe Own F W W'' := fun k hk => by
 obtain ⟨h1, h2⟩ := h k hk
 obtain ⟨o, ho, hc⟩ := hF k hk
 obtain ⟨h3, h4⟩ := hs.2 k o (h2.trans ho) hc h1
 exact ⟨h4, h3.trans ho.symm⟩
theorem StoreF.cells {w : World} {st : Nat} {xs : List Ent} {F : List Nat} (h : StoreF w st xs F) : ∀ k ∈ F, ∃ o, w.heap[k]? = some o /\ o.isCells = true := by
 obtain ⟨v, hS, rfl⟩ := h
 intro k hk
 rcases List.mem_cons.1 hk with rfl | hk
 ·exact ⟨_, hS.1, rfl⟩
 ·have hk' : v.ownBlock = some k := by simpa using hk
  rcases hS.2.1 with ⟨rfl, _⟩ | ⟨g, cap, sp, rfl, hg, _⟩
  ·cases hk'
  ·cases hk'; exact ⟨_, hg, rfl⟩
def fromE (xs : List Ent) (b m : Int) : List Ent := xs.filter fun x => !decide (klt x.a x.l b m)
theorem place_from {xs : List Ent} {b m : Int} : ∀ {i : Nat}, Place xs b m i -> fromE xs b m = xs.drop i := by
 induction xs with
 | nil => intro i _; simp [fromE]
 | cons x xs ih =>
  intro i h
  cases i with
  | zero =>
   have h3 := h.2.2
   rw [List.drop_zero]
   exact List.filter_eq_self.2 fun y hy => by have := h3 y (by simpa using hy); simp only [this, decide_false, Bool.not_false]
  | succ i =>
   obtain ⟨hk, hp⟩ := h.cons
   rw [List.drop_succ_cons, <- ih hp]
   unfold fromE
   rw [List.filter_cons_of_neg (by simp [hk])]
def ListF (w : World) (lp : Nat) (xs : List Ent) (F : List Nat) : Prop := ∃ st Fs, w.heap[lp]? = some (.cells #[ptrV st] 166 (0, 0)) /\ StoreF w st xs Fs /\ lp ∉ Fs /\ F = lp :: Fs
theorem ListF.lt {w : World} {lp : Nat} {xs : List Ent} {F : List Nat} (h : ListF w lp xs F) : ∀ k ∈ F, k < w.heap.size := by
 obtain ⟨st, Fs, h1, h2, _, rfl⟩ := h
 intro k hk
 rcases List.mem_cons.1 hk with rfl | hk
 ·exact (Array.getElem?_eq_some_iff.1 h1).1
 ·exact h2.lt k hk
theorem ListF.cells {w : World} {lp : Nat} {xs : List Ent} {F : List Nat} (h : ListF w lp xs F) : ∀ k ∈ F, ∃ o, w.heap[k]? = some o /\ o.isCells = true := by
 obtain ⟨st, Fs, h1, h2, _, rfl⟩ := h
 intro k hk
 rcases List.mem_cons.1 hk with rfl | hk
 ·exact ⟨_, h1, rfl⟩
 ·exact h2.cells k hk
theorem ListF.kept {w w' : World} {lp : Nat} {xs : List Ent} {F : List Nat} (h : ListF w lp xs F) (hk : ∀ k ∈ F, w'.heap[k]? = w.heap[k]?) : ListF w' lp xs F := by
 obtain ⟨st, Fs, h1, h2, h3, rfl⟩ := h
 exact ⟨st, Fs, (hk lp (by simp)).trans h1, h2.kept fun k hk' => hk k (by simp [hk']), h3, rfl⟩
theorem ListF.later {w w' : World} {lp : Nat} {xs : List Ent} {F : List Nat} (h : ListF w lp xs F) (hB : Below w.heap.size w w') : ListF w' lp xs F := h.kept fun k hk => hB.block k (h.lt k hk)
end Go.Proofs.YtglbamalagacgaaGreat

namespace Go.Proofs.YtglbamalagacgaaGreat
open Go.RowKit Go.Shelf
def okE (x : Ent) : Prop := isPfx x.a x.l = true /\ 1 <= x.n /\ x.n <= 255
theorem isPfx_iff (a l : Int) : isPfx a l = true ↔ 0 <= l /\ l <= 8 /\ 0 <= a /\ a < 256 /\ a % wid l = 0 := by
 unfold isPfx; simp only [Bool.and_eq_true, decide_eq_true_eq]; omega
theorem sorted_len {hi : Int} : ∀ (xs : List Ent) (lo : Int), Sorted xs -> (∀ x ∈ xs, 0 <= x.l /\ x.l <= 8 /\ lo <= 9 * x.a + x.l /\ 9 * x.a + x.l < hi) -> xs.length <= (hi - lo).toNat := by
 intro xs
 induction xs with
 | nil => intros; simp
 | cons x xs ih =>
  intro lo hs hx
  obtain ⟨hs1, hs2⟩ := sorted_tail hs
  have h1 := hx x (by simp)
  have := ih (9 * x.a + x.l + 1) hs1 fun y hy => by
   have h2 := hx y (by simp [hy])
   have h3 := hs2 y hy
   unfold klt at h3
   omega
  simp
  omega
theorem ok_len {xs : List Ent} (hs : Sorted xs) (hk : ∀ x ∈ xs, okE x) : xs.length <= 2304 := by
 have := sorted_len (hi := 2304) xs 0 hs fun x hx => by
  have := (isPfx_iff _ _).1 (hk x hx).1
  omega
 omega
theorem ok_put {xs : List Ent} {a l n : Int} (hk : ∀ x ∈ xs, okE x) (h : okE ⟨a, l, n⟩) : ∀ x ∈ putE xs a l n, okE x := fun x hx => by
 rcases putE_mem hx with rfl | hx
 ·exact h
 ·exact hk x hx
theorem ok_del {xs : List Ent} {a l : Int} (hk : ∀ x ∈ xs, okE x) : ∀ x ∈ delE xs a l, okE x := fun x hx => hk x (delE_mem hx)
def NewF (w : World) (F F' : List Nat) : Prop := ∀ k ∈ F', k ∈ F ∨ w.heap.size <= k
theorem NewF.refl (w : World) (F : List Nat) : NewF w F F := fun _ h => .inl h
theorem NewF.trans {w w' : World} {F F' F'' : List Nat} (h : NewF w F F') (k : NewF w' F' F'') (hs : w.heap.size <= w'.heap.size) : NewF w F F'' := fun x hx => by
 rcases k x hx with h1 | h1
 ·exact h x h1
 ·exact .inr (by omega)
theorem ListF.sorted {w : World} {lp : Nat} {xs : List Ent} {F : List Nat} (h : ListF w lp xs F) : Sorted xs := by
 obtain ⟨st, Fs, _, ⟨v, hS, _⟩, _⟩ := h
 exact hS.2.2.2.1
theorem ListF.c0 {w : World} {lp : Nat} {xs : List Ent} {F : List Nat} (h : ListF w lp xs F) : ∃ st Fs, w.cell? ⟨lp, 0, none⟩ = some (ptrV st) /\ lp < w.heap.size /\ StoreF w st xs Fs /\ lp ∉ Fs /\ F = lp :: Fs := by
 obtain ⟨st, Fs, h1, h2, h3, h4⟩ := h
 exact ⟨st, Fs, by simp [World.cell?, h1], (Array.getElem?_eq_some_iff.1 h1).1, h2, h3, h4⟩
theorem ListF.turned {w w' : World} {lp st : Nat} {ys : List Ent} {Fs Fs' : List Nat} (h : w.heap[lp]? = some (.cells #[ptrV st] 166 (0, 0))) (hn : lp ∉ Fs) (hS : StoreF w' st ys Fs') (hN : NewF w Fs Fs') (hO : Only Fs w w') :
  ListF w' lp ys (lp :: Fs') /\ NewF w (lp :: Fs) (lp :: Fs') /\ Only (lp :: Fs) w w' := by
 have hl := (Array.getElem?_eq_some_iff.1 h).1
 refine ⟨⟨st, Fs', (hO.block lp hl hn).trans h, hS, fun hk => ?_, rfl⟩, fun k hk => ?_, hO.mono fun x hx _ => by simp [hx]⟩
 ·rcases hN lp hk with h1 | h1
  ·exact hn h1
  ·omega
 ·rcases List.mem_cons.1 hk with rfl | hk
  ·simp
  ·rcases hN k hk with h1 | h1
   ·simp [h1]
   ·exact .inr h1
theorem StoreF.later {w w' : World} {st : Nat} {xs : List Ent} {F : List Nat} (h : StoreF w st xs F) (hB : Below w.heap.size w w') : StoreF w' st xs F := h.kept fun k hk => hB.block k (h.lt k hk)
set_option maxHeartbeats 400000 in
theorem lstLay_any (lp : Nat) (xs : List Ent) (F : List Nat) (a l n : Int) (w : World) (hL : ListF w lp xs F) (hk : ∀ x ∈ xs, okE x) :
  Calls Tryz.prog 175 #[ptrV lp, rteV a l n] w fun r w' => (∃ F', ListF w' lp (putE xs a l n) F' /\ NewF w F F') /\ Only F w w' /\ r = .returned (.int .i64 (orZ (getE xs a l))) := by
 have hlen := ok_len hL.sorted hk
 obtain ⟨st, Fs, hlp, hSt, hnF, rfl⟩ := hL
 have llp := (Array.getElem?_eq_some_iff.1 hlp).1
 have c0 : w.cell? ⟨lp, 0, none⟩ = some (ptrV st) := by simp [World.cell?, hlp]
 have m1 : lp < w.heap.size + 1 := by omega
 have hwF : w.heap.size ∉ Fs := fun h => by have := hSt.lt _ h; omega
 go_enter Tryz.func175, Tryz.ntmps175
 go_wp2
 go_region_held3 (fun w' => w'.cell? ⟨lp, 0, none⟩ = some (ptrV st) /\ w'.cell? ⟨w.heap.size, 0, none⟩ = some (.int .i64 a) /\ w'.cell? ⟨w.heap.size, 1, none⟩ = some (.int .i64 l) /\ w'.cell? ⟨w.heap.size, 2, none⟩ = some (.int .i64 n)) (go_keep)
  (first
   | (go_at_call 79; refine (of_any _ _ _ _).mono ?_; rintro _ w1 ⟨rfl, hb⟩; have hc := (bcell hb).1; (have hB1 : Below w.heap.size w w1 := ((Below.refl _ w).alloc (Nat.le_refl _) _).drew.trans (hb.mono (by simp))); (have hz1 : w.heap.size < w1.heap.size := by have := hb.size; simp at this; omega); have hS1 := hSt.later hB1)
   | (go_at_call 180; refine (put_F st xs Fs a l n _ hS1 (by omega)).mono ?_; rintro _ w2 ⟨hF2, hO, rfl⟩; (have hc1 : ∀ o, w2.cell? ⟨lp, o, none⟩ = w1.cell? ⟨lp, o, none⟩ := fun o => hO.cell (by omega) hnF); (have hc2 : ∀ o, w2.cell? ⟨w.heap.size, o, none⟩ = w1.cell? ⟨w.heap.size, o, none⟩ := fun o => hO.cell hz1 hwF)))
 obtain ⟨F', hF1, hF3⟩ := hF2
 have hO2 : Only Fs w w2 := (Only.of_below _ hB1).trans hO (fun x hx => .inl hx)
 obtain ⟨r1, r2, r3⟩ := ListF.turned hlp hnF hF1 (fun k hk => (hF3 k hk).imp id (fun h => by have := hB1.size; omega)) hO2
 have fin := hide (show (∃ F', ListF w2 lp (putE xs a l n) F' /\ NewF w (lp :: Fs) F') /\ Only (lp :: Fs) w w2 from ⟨⟨_, r1, r2⟩, r3⟩)
 clear r1 r2 r3 hO2 hF1 hF3 hO hc1 hc2 hS1 hB1 hc hb hk
 go_wp2
 go_ret
 exact ⟨fin.out.1, fin.out.2, rfl⟩
set_option maxHeartbeats 400000 in
theorem lstTake_any (lp : Nat) (xs : List Ent) (F : List Nat) (a l : Int) (w : World) (hL : ListF w lp xs F) :
  Calls Tryz.prog 176 #[ptrV lp, pfxV a l] w fun r w' => (∃ F', ListF w' lp (delE xs a l) F' /\ NewF w F F') /\ Only F w w' /\ r = .returned (.int .i64 (orZ (getE xs a l))) := by
 obtain ⟨st, Fs, hlp, hSt, hnF, rfl⟩ := hL
 have llp := (Array.getElem?_eq_some_iff.1 hlp).1
 have c0 : w.cell? ⟨lp, 0, none⟩ = some (ptrV st) := by simp [World.cell?, hlp]
 have m1 : lp < w.heap.size + 1 := by omega
 have hwF : w.heap.size ∉ Fs := fun h => by have := hSt.lt _ h; omega
 have hB1 : Below w.heap.size w (w.alloc (Obj.cells #[.int .i64 a, .int .i64 l] 65)).drew := ((Below.refl _ w).alloc (Nat.le_refl _) _).drew
 have hS1 := hSt.later hB1
 go_enter Tryz.func176, Tryz.ntmps176
 go_wp2
 go_region_held3 (fun w' => w'.cell? ⟨lp, 0, none⟩ = some (ptrV st) /\ w'.cell? ⟨w.heap.size, 0, none⟩ = some (.int .i64 a) /\ w'.cell? ⟨w.heap.size, 1, none⟩ = some (.int .i64 l)) (go_keep)
  (first
   | (go_at_call 181; refine (remove_F st xs Fs a l _ hS1).mono ?_; rintro _ w2 ⟨hF2, hO, rfl⟩; (have hc1 : ∀ o, w2.cell? ⟨lp, o, none⟩ = (w.alloc (Obj.cells #[.int .i64 a, .int .i64 l] 65)).cell? ⟨lp, o, none⟩ := fun o => hO.cell (by simp; omega) hnF); (have hc2 : ∀ o, w2.cell? ⟨w.heap.size, o, none⟩ = (w.alloc (Obj.cells #[.int .i64 a, .int .i64 l] 65)).cell? ⟨w.heap.size, o, none⟩ := fun o => hO.cell (by simp) hwF)))
 obtain ⟨F', hF1, hF3⟩ := hF2
 have hO2 : Only Fs w w2 := (Only.of_below _ hB1).trans hO (fun x hx => .inl hx)
 obtain ⟨r1, r2, r3⟩ := ListF.turned hlp hnF hF1 (fun k hk => (hF3 k hk).imp id (fun h => by have := hB1.size; omega)) hO2
 have fin := hide (show (∃ F', ListF w2 lp (delE xs a l) F' /\ NewF w (lp :: Fs) F') /\ Only (lp :: Fs) w w2 from ⟨⟨_, r1, r2⟩, r3⟩)
 clear r1 r2 r3 hO2 hF1 hF3 hO hc1 hc2 hS1 hB1
 go_wp2
 go_ret
 exact ⟨fin.out.1, fin.out.2, rfl⟩
set_option maxHeartbeats 400000 in
theorem lstCells_any (lp : Nat) (xs : List Ent) (F : List Nat) (w : World) (hL : ListF w lp xs F) :
  Calls Tryz.prog 173 #[ptrV lp] w fun r w' => w' = w /\ r = .returned (.int .i64 xs.length) := by
 obtain ⟨st, Fs, hlp, hSt, hnF, rfl⟩ := hL
 have c0 : w.cell? ⟨lp, 0, none⟩ = some (ptrV st) := by simp [World.cell?, hlp]
 go_enter Tryz.func173, Tryz.ntmps173
 go_wp2_with (go_at_call 177; refine (len_F st xs Fs _ hSt).mono ?_; rintro _ w2 ⟨rfl, rfl⟩)
 go_ret
 exact ⟨rfl, rfl⟩
set_option maxHeartbeats 400000 in
theorem newList_any (w : World) :
  Calls Tryz.prog 94 #[] w fun r w' => Below w.heap.size w w' /\ ∃ lp F, ListF w' lp [] F /\ (∀ k ∈ F, w.heap.size <= k) /\ r = .returned (ptrV lp) := by
 go_enter Tryz.func94, Tryz.ntmps94
 go_wp2
 go_ret
 refine ⟨(by repeat (first | exact Below.refl _ _ | refine below_drewN ?_ _ | refine Below.drew ?_ | refine Below.trans ?_ (Below.mono (by assumption) ?_) | refine Below.alloc ?_ ?_ _ | refine Below.setCell ?_ ?_ _ | omega | (simp; omega) | simp)), w.heap.size + 1, [w.heap.size + 1, w.heap.size], ⟨w.heap.size, [w.heap.size], ?_, ⟨.slice none 0 0, ⟨?_, .inl ⟨rfl, rfl⟩, by simp [Value.ownBlock], List.Pairwise.nil, by simp⟩, rfl⟩, by simp, rfl⟩, by simp, rfl⟩
 ·have := World.alloc_heap_new (w.alloc (Obj.cells #[cmpV, Value.slice none 0 0] 183)) (Obj.cells #[ptrV w.heap.size] 166)
  rwa [World.size_alloc] at this
 ·exact (Below.heap_alloc _ _ _ (by simp)).trans (World.alloc_heap_new w _)
end Go.Proofs.YtglbamalagacgaaGreat

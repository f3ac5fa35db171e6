import Derived.Test.YtkihifodifkieaaTrp
namespace Go.Proofs.Ytkihifodifkieaa
open Go.RowKit

def ptrO (o : Option Nat) : Value := match o with
  | some b => ptrV b
  | none => .pointer none
theorem ptrO_some (b : Nat) : ptrO (some b) = ptrV b := rfl
theorem ptrO_none : ptrO none = .pointer none := rfl
def tyC (c : Nat) : TypeId := if c = 1 then 87 else 85

-- A TREE IN MEMORY: the block of each node that there is
structure TrM (w : World) (B : Nat → Option Nat) (v : Nat → Int) : Prop where
  node : ∀ c b, B c = some b → w.heap[b]? = some (.cells #[.int .i64 (v c), ptrO (B (2 * c)), ptrO (B (2 * c + 1))] (tyC c) (0, 0))
  inj : ∀ c d b, B c = some b → B d = some b → c = d
  dom : ∀ c b, B c = some b → 1 ≤ c ∧ c < 512
  up : ∀ c, 1 ≤ c → B c = none → B (2 * c) = none ∧ B (2 * c + 1) = none
  off : ∀ c, B c = none → v c = 0
theorem TrM.lt {w : World} {B : Nat → Option Nat} {v : Nat → Int} (h : TrM w B v) {c b : Nat} (hb : B c = some b) : b < w.heap.size := (Array.getElem?_eq_some_iff.1 (h.node c b hb)).1
theorem TrM.c0 {w : World} {B : Nat → Option Nat} {v : Nat → Int} (h : TrM w B v) {c b : Nat} (hb : B c = some b) : w.cell? ⟨b, 0, none⟩ = some (.int .i64 (v c)) := by simp [World.cell?, h.node c b hb]
theorem TrM.c1 {w : World} {B : Nat → Option Nat} {v : Nat → Int} (h : TrM w B v) {c b : Nat} (hb : B c = some b) : w.cell? ⟨b, 1, none⟩ = some (ptrO (B (2 * c))) := by simp [World.cell?, h.node c b hb]
theorem TrM.c2 {w : World} {B : Nat → Option Nat} {v : Nat → Int} (h : TrM w B v) {c b : Nat} (hb : B c = some b) : w.cell? ⟨b, 2, none⟩ = some (ptrO (B (2 * c + 1))) := by simp [World.cell?, h.node c b hb]
theorem TrM.fz {w : World} {B : Nat → Option Nat} {v : Nat → Int} (h : TrM w B v) {c b : Nat} (hb : B c = some b) (o : Nat) : w.frozen? ⟨b, o, none⟩ = false := by simp [World.frozen?, h.node c b hb]
theorem TrM.kept {w w' : World} {B : Nat → Option Nat} {v : Nat → Int} (h : TrM w B v) (hk : ∀ c b, B c = some b → w'.heap[b]? = w.heap[b]?) : TrM w' B v :=
  ⟨fun c b hb => (hk c b hb).trans (h.node c b hb), h.inj, h.dom, h.up, h.off⟩
theorem TrM.later {w w' : World} {B : Nat → Option Nat} {v : Nat → Int} (h : TrM w B v) (hB : Below w.heap.size w w') : TrM w' B v := h.kept fun _ _ hb => hB.block _ (h.lt hb)
-- its blocks
def FpB (B : Nat → Option Nat) (F : List Nat) : Prop := ∀ b, b ∈ F ↔ ∃ c, B c = some b
theorem fp_ex {w : World} {B : Nat → Option Nat} {v : Nat → Int} (h : TrM w B v) : ∃ F, FpB B F := by
  refine ⟨(List.range 512).filterMap B, fun b => ?_⟩
  rw [List.mem_filterMap]
  constructor
  · rintro ⟨c, _, hc⟩; exact ⟨c, hc⟩
  · rintro ⟨c, hc⟩; exact ⟨c, List.mem_range.2 (h.dom c b hc).2, hc⟩

-- a half is made
theorem TrM.make {w : World} {B : Nat → Option Nat} {v : Nat → Int} (h : TrM w B v) {c b s : Nat} (hb : B c = some b) (hs : s = 0 ∨ s = 1) (hc : c < 256) (hn : B (2 * c + s) = none) :
    TrM ((w.setCell ⟨b, 1 + s, none⟩ (ptrV w.heap.size)).alloc (.cells #[.int .i64 0, .pointer none, .pointer none] 85)) (fun d => if d = 2 * c + s then some w.heap.size else B d) v := by
  have hbl := h.lt hb
  have hc1 := (h.dom c b hb).1
  have hup := h.up (2 * c + s) (by omega) hn
  have hwb : ∀ d k, B d = some k → k ≠ w.heap.size := fun d k hk => by have := h.lt hk; omega
  have hblk := h.node c b hb
  have hsz : (w.setCell ⟨b, 1 + s, none⟩ (ptrV w.heap.size)).heap.size = w.heap.size := by simp
  have hnew := World.alloc_heap_new (w.setCell ⟨b, 1 + s, none⟩ (ptrV w.heap.size)) (.cells #[.int .i64 0, .pointer none, .pointer none] 85)
  rw [hsz] at hnew
  have hold : ∀ k, k < w.heap.size → ((w.setCell ⟨b, 1 + s, none⟩ (ptrV w.heap.size)).alloc (.cells #[.int .i64 0, .pointer none, .pointer none] 85)).heap[k]? = (w.setCell ⟨b, 1 + s, none⟩ (ptrV w.heap.size)).heap[k]? := fun k hk => Below.heap_alloc _ _ _ (by rw [hsz]; exact hk)
  refine ⟨fun d k hd => ?_, fun d e k hd he => ?_, fun d k hd => ?_, fun d hd1 hd => ?_, fun d hd => ?_⟩
  · by_cases e1 : d = 2 * c + s
    · rw [if_pos e1] at hd
      cases hd
      rw [hnew]
      subst e1
      rw [if_neg (by omega), if_neg (by omega), hup.1, hup.2, h.off _ hn]
      have : tyC (2 * c + s) = 85 := by unfold tyC; rw [if_neg (by omega)]
      rw [this]; rfl
    · rw [if_neg e1] at hd
      by_cases e2 : d = c
      · subst e2
        rw [hb] at hd
        cases hd
        rw [hold b hbl, setCell_eq_setRow _ b (1 + s) _ (tyC d) (0, 0) _ hblk, setRow_heap _ b _ _ _ _ hblk]
        rcases hs with rfl | rfl
        · rw [if_pos (by omega), if_neg (by omega)]; rfl
        · rw [if_neg (by omega), if_pos (by omega)]; rfl
      · have hkb : k ≠ b := fun e => e2 (h.inj d c b (e ▸ hd) hb)
        rw [hold k (h.lt hd), Deep.blk_setCell_other _ _ _ _ hkb, h.node d k hd]
        have hcs : ∀ x, x / 2 = d → (if x = 2 * c + s then some w.heap.size else B x) = B x := fun x hx => if_neg (by omega)
        rw [hcs (2 * d) (by omega), hcs (2 * d + 1) (by omega)]
  · by_cases e1 : d = 2 * c + s
    · rw [if_pos e1] at hd
      by_cases e2 : e = 2 * c + s
      · omega
      · rw [if_neg e2] at he
        cases hd
        exact absurd rfl (hwb e _ he)
    · rw [if_neg e1] at hd
      by_cases e2 : e = 2 * c + s
      · rw [if_pos e2] at he
        cases he
        exact absurd rfl (hwb d _ hd)
      · rw [if_neg e2] at he
        exact h.inj d e k hd he
  · by_cases e1 : d = 2 * c + s
    · omega
    · rw [if_neg e1] at hd; exact h.dom d k hd
  · by_cases e1 : d = 2 * c + s
    · rw [if_pos e1] at hd; cases hd
    · rw [if_neg e1] at hd
      have h1 := h.up d hd1 hd
      have h2 : d ≠ c := fun e => by rw [e, hb] at hd; cases hd
      rw [if_neg (by omega), if_neg (by omega)]
      exact h1
  · by_cases e1 : d = 2 * c + s
    · rw [if_pos e1] at hd; cases hd
    · rw [if_neg e1] at hd; exact h.off d hd

def HalfP (w : World) (B : Nat → Option Nat) (v : Nat → Int) (c b s : Nat) (r : Ending) (w' : World) : Prop :=
  ∃ B' nb, TrM w' B' v ∧ B' (2 * c + s) = some nb ∧ r = .returned (ptrV nb) ∧ Only [b] w w' ∧ (∀ d, d ≠ 2 * c + s → B' d = B d) ∧ (B (2 * c + s) = some nb ∨ (B (2 * c + s) = none ∧ w.heap.size ≤ nb))

set_option maxHeartbeats 400000 in
theorem half_any (w : World) (B : Nat → Option Nat) (v : Nat → Int) (c b s : Nat) (h : TrM w B v) (hb : B c = some b) (hs : s = 0 ∨ s = 1) (hc : c < 256) :
    Calls Try.prog 107 #[ptrV b, .int .i64 s] w (HalfP w B v c b s) := by
  have hbl := h.lt hb
  have c1 := h.c1 hb
  have c2 := h.c2 hb
  have fz := h.fz hb
  have n1 : w.heap.size ≠ b := by omega
  have n2 : b ≠ w.heap.size := by omega
  cases hn : B (2 * c + s) with
  | some nb =>
    have fin := hide (show HalfP w B v c b s (.returned (ptrV nb)) w from ⟨B, nb, h, hn, rfl, Only.refl _ _, fun _ _ => rfl, .inl hn⟩)
    clear h
    rcases hs with rfl | rfl
    · rw [Nat.add_zero] at hn
      rw [hn, ptrO_some] at c1
      clear hn c2
      go_enter Try.func107, Try.ntmps107
      go_wp2
      go_ret
      exact fin.out
    · rw [hn, ptrO_some] at c2
      clear hn c1
      go_enter Try.func107, Try.ntmps107
      go_wp2
      go_ret
      exact fin.out
  | none =>
    have hm := h.make hb hs hc hn
    have fin := hide (show HalfP w B v c b s (.returned (ptrV w.heap.size)) ((w.setCell ⟨b, 1 + s, none⟩ (ptrV w.heap.size)).alloc (.cells #[.int .i64 0, .pointer none, .pointer none] 85)) from
      ⟨_, w.heap.size, hm, by simp, rfl, ⟨rfl, rfl, rfl, by simp, fun k hk hk' => by
        rw [Below.heap_alloc _ _ _ (by simpa using hk), Deep.blk_setCell_other _ _ _ _ (by simpa using hk')]⟩, fun d hd => if_neg hd, .inr ⟨hn, Nat.le_refl _⟩⟩)
    clear hm h
    rcases hs with rfl | rfl
    · rw [Nat.add_zero] at hn
      rw [hn, ptrO_none] at c1
      clear hn c2
      go_enter Try.func107, Try.ntmps107
      go_wp2
      go_ret
      exact fin.out
    · rw [hn, ptrO_none] at c2
      clear hn c1
      go_enter Try.func107, Try.ntmps107
      go_wp2
      go_ret
      exact fin.out

end Go.Proofs.Ytkihifodifkieaa

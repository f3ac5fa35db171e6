import Derived.Test.YtglbamalagacgaaGreatL3
import Derived.Test.YtglbamalagacgaaGreatN2
namespace Go.Proofs.YtglbamalagacgaaGreat
open Go.RowKit Go.Shelf
attribute [local go_sem] Oper.semAt_some
def TS.fresh (cf : Cfg) : TS := ⟨[], cf.e, cf.b, cf.c, cf.l, none, 0, 0⟩
theorem new_ts (w : World) (cf : Cfg) (h : isCfg cf) : Calls Tryz.prog 31 #[cfgV cf] w fun r w' => ∃ t A, r = .returned (.tuple #[ptrV t, .int .i64 0]) /\ Below w.heap.size w w' /\ TT w' t (TS.fresh cf) A /\ ∀ k ∈ A, w.heap.size <= k :=
 (new_yes w cf h).mono (by
  rintro r w' ⟨t, e, F, h1, h2, h3, h4, h5⟩
  obtain ⟨d1, d2, d3, d4, d5, d6, d7, d8⟩ := h
  exact ⟨t, t :: (F ++ []), h1, h2, ⟨⟨List.Pairwise.nil, by simp [TS.fresh], d1, d2, d3, d4, d5, d6, d7, d8, fun m hm => by cases hm⟩, e, .pointer none, F, [], h3, rfl⟩, fun k hk => by
   simp only [List.mem_cons, List.mem_append, List.not_mem_nil, or_false] at hk
   rcases hk with rfl | hk
   ·exact h4
   ·exact h5 k hk⟩)
theorem ChgsAt.away {w1 : World} {v : Value} {cs : List Chg} {A : List Nat} (hv : ChgsAt w1 v cs) (h : ∀ k ∈ A, w1.heap.size <= k) : Apart v A := by
 intro B n cap he hn hF
 obtain ⟨a, cap', h1, h2, h3⟩ := hv
 rw [he] at h1
 cases h1
 obtain ⟨A', h4, h5, _⟩ := h3 0 cs[0] (List.getElem?_eq_getElem hn)
 cases h4
 have := h _ hF
 omega
structure Duo (w1 w : World) (b1 b2 t1 t2 : Nat) (s d : TS) (A1 A2 : List Nat) : Prop where
 P : Pair w t1 t2 s d A1 A2
 S : Same s d
 k1 : w.cell? ⟨b1, 4, none⟩ = some (ptrV t1)
 k2 : w.cell? ⟨b2, 4, none⟩ = some (ptrV t2)
 n1 : b1 ∉ A1 ++ A2
 n2 : b2 ∉ A1 ++ A2
 below : Below w1.heap.size w1 w
 b3 : ∀ k ∈ A1 ++ A2, w1.heap.size <= k
section
variable {w1 w w' : World} {b1 b2 t1 t2 : Nat} {s d s' d' : TS} {A1 A2 A1' A2' : List Nat}
theorem Duo.lt (h : Duo w1 w b1 b2 t1 t2 s d A1 A2) : b1 < w.heap.size /\ b2 < w.heap.size := ⟨World.block_lt_of_cell? w _ h.k1, World.block_lt_of_cell? w _ h.k2⟩
theorem Duo.later (h : Duo w1 w b1 b2 t1 t2 s d A1 A2) (hB : Below w.heap.size w w') : Duo w1 w' b1 b2 t1 t2 s d A1 A2 :=
 ⟨h.P.later hB, h.S, (hB.cell (p := ⟨b1, 4, none⟩) h.lt.1).trans h.k1, (hB.cell (p := ⟨b2, 4, none⟩) h.lt.2).trans h.k2, h.n1, h.n2, h.below.trans (hB.mono h.below.size), h.b3⟩
end
end Go.Proofs.YtglbamalagacgaaGreat

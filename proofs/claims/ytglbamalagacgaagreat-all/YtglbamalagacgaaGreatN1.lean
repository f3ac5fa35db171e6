import Derived.Test.YtglbamalagacgaaGreatF1
import Derived.Test.YtglbamalagacgaaGreatK1
import Derived.Test.YtglbamalagacgaaGreatL3
import Derived.Test.YtglbamalagacgaaGreatN0
import Derived.Test.YtglbamalagacgaaGreatT4
namespace Go.Proofs.YtglbamalagacgaaGreat
open Go.RowKit Go.Shelf
end Go.Proofs.YtglbamalagacgaaGreat

namespace Go.Proofs.YtglbamalagacgaaGreat
open Go.RowKit Go.Shelf
attribute [local go_sem] Oper.semAt_some
end Go.Proofs.YtglbamalagacgaaGreat

namespace Go.Proofs.YtglbamalagacgaaGreat
open Go.RowKit Go.Shelf
attribute [local go_sem] Oper.semAt_some
structure Pair (w : World) (t1 t2 : Nat) (s d : TS) (A1 A2 : List Nat) : Prop where
 T1 : TT w t1 s A1
 T2 : TT w t2 d A2
 dj : ∀ k ∈ A1, k ∉ A2
section
variable {w w' : World} {t1 t2 : Nat} {s d s' d' : TS} {A1 A2 : List Nat} {v : Value} {r : Ending}
end
structure Same (s d : TS) : Prop where
 xs : s.xs = d.xs
 b1 : s.b = 400
 b2 : d.b = 400
def AlkP (w : World) (t1 t2 : Nat) (A1 A2 : List Nat) (r : Ending) (w' : World) : Prop := r = .returned (.bool true) /\ ∃ s' d' A1' A2', Pair w' t1 t2 s' d' A1' A2' /\ Same s' d' /\ NewF w A1 A1' /\ NewF w A2 A2' /\ Only (A1 ++ A2) w w'
theorem AlkP.back {w w1 w2 : World} {t1 t2 : Nat} {A1 A2 : List Nat} {r : Ending} (h : AlkP w1 t1 t2 A1 A2 r w2) (hB : Below w.heap.size w w1) : AlkP w t1 t2 A1 A2 r w2 := by
 obtain ⟨h1, s', d', A1', A2', h2, h3, h4, h5, h6⟩ := h
 have := hB.size
 exact ⟨h1, s', d', A1', A2', h2, h3, fun k hk => (h4 k hk).imp id fun h => by omega, fun k hk => (h5 k hk).imp id fun h => by omega, (Only.of_below _ hB).trans h6 fun x hx => .inl hx⟩
end Go.Proofs.YtglbamalagacgaaGreat

namespace Go.Proofs.YtglbamalagacgaaGreat
open Go.RowKit Go.Shelf
attribute [local go_sem] Oper.semAt_some
end Go.Proofs.YtglbamalagacgaaGreat

namespace Go.Proofs.YtglbamalagacgaaGreat
open Go.RowKit Go.Shelf
attribute [local go_sem] Oper.semAt_some
def TS.fresh (cf : Cfg) : TS := ⟨[], cf.e, cf.b, cf.c, cf.l, none, 0, 0⟩
theorem new_ts (w : World) (cf : Cfg) (h : isCfg cf) : Calls Tryz.prog 31 #[cfgV cf] w fun r w' => ∃ t A, r = .returned (.tuple #[ptrV t, .int .i64 0]) /\ Below w.heap.size w w' /\ TT w' t (TS.fresh cf) A /\ ∀ k ∈ A, w.heap.size <= k :=
 (new_yes w cf h).mono (by
  rintro r w' ⟨t, e, F, h1, h2, h3, h4, h5⟩
  obtain ⟨d1, d2, d3, d4, d5, d6, d7, d8⟩ := h
  exact ⟨t, t :: (F ++ []), h1, h2, ⟨⟨List.Pairwise.nil, by simp [TS.fresh], d1, d2, d3, d4, d5, d6, d7, d8, fun m hm => by cases hm⟩, e, .pointer none, F, [], h3, rfl⟩, fun k hk => by
   simp only [List.mem_cons, List.mem_append, List.not_mem_nil, or_false] at hk
   rcases hk with rfl | hk
   ·exact h4
   ·exact h5 k hk⟩)
theorem ChgsAt.away {w1 : World} {v : Value} {cs : List Chg} {A : List Nat} (hv : ChgsAt w1 v cs) (h : ∀ k ∈ A, w1.heap.size <= k) : Apart v A := by
 intro B n cap he hn hF
 obtain ⟨a, cap', h1, h2, h3⟩ := hv
 rw [he] at h1
 cases h1
 obtain ⟨A', h4, h5, _⟩ := h3 0 cs[0] (List.getElem?_eq_getElem hn)
 cases h4
 have := h _ hF
 omega
section
variable {w1 w w' : World} {b1 b2 t1 t2 : Nat} {s d s' d' : TS} {A1 A2 A1' A2' : List Nat}
end
end Go.Proofs.YtglbamalagacgaaGreat

import Derived.Test.YtglbamalagacgaaGreatF1
import Derived.Test.YtglbamalagacgaaGreatK1
import Derived.Test.YtglbamalagacgaaGreatN0
import Derived.Test.YtglbamalagacgaaGreatT4
namespace Go.Proofs.YtglbamalagacgaaGreat
open Go.RowKit Go.Shelf
end Go.Proofs.YtglbamalagacgaaGreat

namespace Go.Proofs.YtglbamalagacgaaGreat
open Go.RowKit Go.Shelf
attribute [local go_sem] Oper.semAt_some
end Go.Proofs.YtglbamalagacgaaGreat

namespace Go.Proofs.YtglbamalagacgaaGreat
open Go.RowKit Go.Shelf
attribute [local go_sem] Oper.semAt_some
structure Pair (w : World) (t1 t2 : Nat) (s d : TS) (A1 A2 : List Nat) : Prop where
 T1 : TT w t1 s A1
 T2 : TT w t2 d A2
 dj : ∀ k ∈ A1, k ∉ A2
section
variable {w w' : World} {t1 t2 : Nat} {s d s' d' : TS} {A1 A2 : List Nat} {v : Value} {r : Ending}
theorem Pair.later (h : Pair w t1 t2 s d A1 A2) (hB : Below w.heap.size w w') : Pair w' t1 t2 s d A1 A2 := ⟨h.T1.later hB, h.T2.later hB, h.dj⟩
end
structure Same (s d : TS) : Prop where
 xs : s.xs = d.xs
 b1 : s.b = 400
 b2 : d.b = 400
def AlkP (w : World) (t1 t2 : Nat) (A1 A2 : List Nat) (r : Ending) (w' : World) : Prop := r = .returned (.bool true) /\ ∃ s' d' A1' A2', Pair w' t1 t2 s' d' A1' A2' /\ Same s' d' /\ NewF w A1 A1' /\ NewF w A2 A2' /\ Only (A1 ++ A2) w w'
theorem AlkP.back {w w1 w2 : World} {t1 t2 : Nat} {A1 A2 : List Nat} {r : Ending} (h : AlkP w1 t1 t2 A1 A2 r w2) (hB : Below w.heap.size w w1) : AlkP w t1 t2 A1 A2 r w2 := by
 obtain ⟨h1, s', d', A1', A2', h2, h3, h4, h5, h6⟩ := h
 have := hB.size
 exact ⟨h1, s', d', A1', A2', h2, h3, fun k hk => (h4 k hk).imp id fun h => by omega, fun k hk => (h5 k hk).imp id fun h => by omega, (Only.of_below _ hB).trans h6 fun x hx => .inl hx⟩
end Go.Proofs.YtglbamalagacgaaGreat

import Derived.Test.YtglbamalagacgaaGreatT4
namespace Go.Proofs.YtglbamalagacgaaGreat
open Go.RowKit Go.Shelf
end Go.Proofs.YtglbamalagacgaaGreat

namespace Go.Proofs.YtglbamalagacgaaGreat
open Go.RowKit Go.Shelf
end Go.Proofs.YtglbamalagacgaaGreat

namespace Go.Proofs.YtglbamalagacgaaGreat
open Go.RowKit Go.Shelf
def mvN : Option Mv -> Int
 | none => 0
 | some _ => 1
theorem wrap_in (n : Int) (h : -9223372036854775808 <= n /\ n <= 9223372036854775807) : wrap64 n = n := by unfold wrap64; omega
def Inv0 (s : TS) (j : Nat) : Prop := j < 9223372036854775816 -> 0 <= s.bs /\ 2 * s.bs + mvN s.mv <= j
theorem Inv0.back {s : TS} {m : Mv} {j : Nat} (h : Inv0 s j) (hm : s.mv = some m) : Inv0 s.back (j + 1) := fun hj => by
 obtain ⟨h1, h2⟩ := h (by omega)
 have h3 : mvN s.mv = 1 := by rw [hm]; rfl
 have e : s.back.bs = s.bs + 1 := by show wrap64 (s.bs + 1) = _; exact wrap_in _ (by omega)
 have e2 : mvN s.back.mv = 0 := rfl
 omega
theorem Inv0.mono {s : TS} {j : Nat} (h : Inv0 s j) : Inv0 s (j + 1) := fun hj => by
 obtain ⟨h1, h2⟩ := h (by omega)
 omega
end Go.Proofs.YtglbamalagacgaaGreat

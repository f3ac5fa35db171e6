import Derived.Test.YtglbamalagacgaaGreatL3
namespace Go.Proofs.YtglbamalagacgaaGreat
open Go.ChangeShapes Go.WideShapes Go.ChangeAt Go.RowKit Go.Deep

-- a whole number that came in
set_option maxRecDepth 100000 in
theorem okWide_i64 {w : World} {base : Nat} {v : Value} (h : Value.okWide Tryz.prog w .any base 3 v) : ∃ n, v = .int .i64 n ∧ -9223372036854775808 ≤ n ∧ n ≤ 9223372036854775807 := by
  obtain ⟨n, rfl⟩ := okWide_int Tryz.underlying3 h
  simp only [Value.okWide, Tryz.underlying3, Cell.okWide, Cell.ok, IntKind.has] at h
  exact ⟨n, rfl, h.2⟩

end Go.Proofs.YtglbamalagacgaaGreat

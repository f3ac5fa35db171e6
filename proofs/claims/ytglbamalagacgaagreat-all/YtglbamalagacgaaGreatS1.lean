import Derived.Test.YtglbamalagacgaaGreatL2
namespace Go.Proofs.YtglbamalagacgaaGreat
open Go.RowKit Go.Shelf
attribute [local go_sem] Oper.semAt_some
theorem LawPost.back {c : TabC} {bk g t : Nat} {cf : Cfg} {s : c.S} {F : List Nat} {w w1 w' : World} {r : Ending} (h : LawPost c bk g t cf s F w1 r w') (hB : Below w.heap.size w w1) : LawPost c bk g t cf s F w r w' := by
 obtain ⟨h1, g', rs', s', F', h2, h3, h4, h5⟩ := h
 refine ⟨h1, g', rs', s', F', h2, h3, (Only.of_below _ hB).trans h4 (fun x hx => .inl hx), fun k hk => (h5 k hk).imp id fun h => by have := hB.size; omega⟩
end Go.Proofs.YtglbamalagacgaaGreat

namespace Go.Proofs.YtglbamalagacgaaGreat
open Go.RowKit Go.Shelf
attribute [local go_sem] Oper.semAt_some
def isCfg (cf : Cfg) : Prop := 1 <= cf.e /\ cf.e <= 3 /\ 1 <= cf.b /\ cf.b <= 400 /\ 1 <= cf.c /\ cf.c <= 8 /\ 1 <= cf.l /\ cf.l <= 16
abbrev cfgV (cf : Cfg) : Value := .agg #[.int .i64 cf.e, .int .i64 cf.b, .int .i64 cf.c, .int .i64 cf.l]
theorem cfg_cases (cf : Cfg) : isCfg cf ∨ cf.e < 1 ∨ (1 <= cf.e /\ 3 < cf.e) ∨ (1 <= cf.e /\ cf.e <= 3 /\ cf.b < 1) ∨ (1 <= cf.e /\ cf.e <= 3 /\ 1 <= cf.b /\ 400 < cf.b) ∨ (1 <= cf.e /\ cf.e <= 3 /\ 1 <= cf.b /\ cf.b <= 400 /\ cf.c < 1) ∨ (1 <= cf.e /\ cf.e <= 3 /\ 1 <= cf.b /\ cf.b <= 400 /\ 1 <= cf.c /\ 8 < cf.c) ∨ (1 <= cf.e /\ cf.e <= 3 /\ 1 <= cf.b /\ cf.b <= 400 /\ 1 <= cf.c /\ cf.c <= 8 /\ cf.l < 1) ∨ (1 <= cf.e /\ cf.e <= 3 /\ 1 <= cf.b /\ cf.b <= 400 /\ 1 <= cf.c /\ cf.c <= 8 /\ 1 <= cf.l /\ 16 < cf.l) := by
 unfold isCfg
 omega
end Go.Proofs.YtglbamalagacgaaGreat

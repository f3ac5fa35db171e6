import Derived.Test.YtglbamalagacgaaGreatF1
import Derived.Test.YtglbamalagacgaaGreatK1
import Derived.Test.YtglbamalagacgaaGreatN0
import Derived.Test.YtglbamalagacgaaGreatT4
namespace Go.Proofs.YtglbamalagacgaaGreat
open Go.RowKit Go.Shelf
end Go.Proofs.YtglbamalagacgaaGreat

namespace Go.Proofs.YtglbamalagacgaaGreat
open Go.RowKit Go.Shelf
attribute [local go_sem] Oper.semAt_some
end Go.Proofs.YtglbamalagacgaaGreat

namespace Go.Proofs.YtglbamalagacgaaGreat
open Go.RowKit Go.Shelf
attribute [local go_sem] Oper.semAt_some
section
variable {w w' : World} {t1 t2 : Nat} {s d s' d' : TS} {A1 A2 : List Nat} {v : Value} {r : Ending}
end
end Go.Proofs.YtglbamalagacgaaGreat

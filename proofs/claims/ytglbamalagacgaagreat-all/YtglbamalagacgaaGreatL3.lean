import Derived.Test.YtglbamalagacgaaGreatS1
namespace Go.Proofs.YtglbamalagacgaaGreat
open Go.RowKit Go.Shelf
attribute [local go_sem] Oper.semAt_some
end Go.Proofs.YtglbamalagacgaaGreat

import Derived.Test.YtglbamalagacgaaGreatL3
import Derived.Test.YtglbamalagacgaaGreatT4
namespace Go.Proofs.YtglbamalagacgaaGreat
open Go.RowKit Go.Shelf

theorem budgeted_holds : Rows.BudgetedSaid := budgeted_row tab3 tab3_news tab3_works tab3_apps tab3_goes

#print axioms budgeted_holds

end Go.Proofs.YtglbamalagacgaaGreat

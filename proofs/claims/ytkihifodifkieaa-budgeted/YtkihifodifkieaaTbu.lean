import Derived.Test.YtkihifodifkieaaTin
import Derived.Test.YtkihifodifkieaaLro
namespace Go.Proofs.Ytkihifodifkieaa
open Go.RowKit Go.Shelf

theorem budgeted_holds : Rows.BudgetedSaid := budgeted_row tab1 tab1_news tab1_works tab1_apps tab1_goes

#print axioms budgeted_holds

end Go.Proofs.Ytkihifodifkieaa

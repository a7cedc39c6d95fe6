/-
  PROVED: for every two rows of steps the given statement ValueChecks returns true, where the library's two UTF-8 tables read as the program's text lays them (the card ties that); no other condition.
-/
import Derived.Test.YtonakfkiidhebaaDoorChecks
import Derived.Test.YtonakfkiidhebaaDoorBuild
namespace Go.Proofs.YtonakfkiidhebaaDoor
theorem valuechecks : Rows.ValueChecksCardSaid := checks_card build_any
end Go.Proofs.YtonakfkiidhebaaDoor

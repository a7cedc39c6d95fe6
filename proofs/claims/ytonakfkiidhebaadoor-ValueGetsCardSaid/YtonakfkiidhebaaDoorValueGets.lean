/-
  PROVED: for every row of steps, key, number and Boolean the given statement ValueGets returns true, where the library's two UTF-8 tables read as the program's text lays them (the card ties that); no other condition.
-/
import Derived.Test.YtonakfkiidhebaaDoorGets
import Derived.Test.YtonakfkiidhebaaDoorGetsLift
namespace Go.Proofs.YtonakfkiidhebaaDoor
theorem valuegets : Rows.ValueGetsCardSaid := valueGets.gets_card valueGets.gets_main
end Go.Proofs.YtonakfkiidhebaaDoor

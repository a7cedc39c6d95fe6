/-
  bosunlaw04.SimfsSafe returns true, for whatever is done ahead, whatever data, and whatever is kept: no condition.
-/
import Derived.Test.YtimcoofmemcojaaSafe
import Derived.Test.YtimcoofmemcojaaSafeLift
namespace Go.Proofs.Ytimcoofmemcojaa.simfsSafe
open Go.Proofs.Ytimcoofmemcojaa
theorem simfsSafe_holds : Rows.SimfsSafeSaid := safe_row safe_main
#print axioms simfsSafe_holds
end Go.Proofs.Ytimcoofmemcojaa.simfsSafe

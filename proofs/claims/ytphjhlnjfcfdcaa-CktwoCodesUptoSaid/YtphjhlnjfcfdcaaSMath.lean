/-
  Images' names. No call.
-/
import Derived.Test.YtphjhlnjfcfdcaaDMath
namespace Go.Proofs.Ytphjhlnjfcfdcaa

def inI (c : UInt8) : Bool := smallB c || (capB c || (digB c || (c == 46 || (c == 95 || (c == 45 || (c == 47 || (c == 58 || c == 64)))))))
def varB (l : List UInt8) : Bool := (decide (1 ≤ l.length) && decide (l.length ≤ 63)) && (!digB (l.headD 0) && l.all inV)
def imgB (l : List UInt8) : Bool := (decide (1 ≤ l.length) && decide (l.length ≤ 255)) && ((smallB (l.headD 0) || digB (l.headD 0)) && l.all inI)
end Go.Proofs.Ytphjhlnjfcfdcaa

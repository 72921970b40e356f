/- A number's bit of a worth. -/
import Derived.Test.YtelmohajdmcnmaaDoorAlu4
namespace Go.Proofs.YtelmohajdmcnmaaDoor.Alu
open Go.RowKit

def hasB (n b : Int) : Bool := (n / b % 2 == 1)

end Go.Proofs.YtelmohajdmcnmaaDoor.Alu

/- How big a program is, by lienbookref02: the contract once more, where the whole weighs a little more than its parts may. -/
import Derived.Test.YtemflcojebanlaaGreatDoorJ11
namespace Go.Proofs.YtemflcojebanlaaGreatDoor.TreeC
open Go Go.RowKit Go.Lib Go.Sort LexP TreeP LexC
end Go.Proofs.YtemflcojebanlaaGreatDoor.TreeC

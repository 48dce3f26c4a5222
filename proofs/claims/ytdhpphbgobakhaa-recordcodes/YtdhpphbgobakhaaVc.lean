/- What the comparisons that package value and its reference call return: contracts, each for every argument. -/
import Derived.Test.YtdhpphbgobakhaaRf
import Derived.Test.YtdhpphbgobakhaaVal
import Derived.Below
namespace Go.Proofs.Ytdhpphbgobakhaa
set_option maxRecDepth 100000
open Go.ChangeShapes Go.WideShapes Go.ChangeAt Go.RowKit
open Fl (S IR nanB normN keyN NaNw cmpK)
open Val (cmpI cmpB cmpT ltT eqT V cmpV)
end Go.Proofs.Ytdhpphbgobakhaa

/-
  Steps in order, each a function value: up to the first one that has an error.
-/
import Derived.Test.YtihbgigledmliaaDkab
namespace Go.Proofs.Ytihbgigledmliaa
open Go.RowKit
set_option linter.unusedVariables false
/-- a step: a function, what is bound to it, what it has captured -/
structure Stp where
  f : FuncId
  A : Array Value
  C : Array Value
def Stp.val (s : Stp) : Value := .func (.func s.f) s.A s.C
end Go.Proofs.Ytihbgigledmliaa

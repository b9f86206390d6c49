/- A call of a function value, whatever the function. -/
import Derived.Test.YtadfleopbpomfaaKit
namespace Go.Proofs.Ytadfleopbpomfaa
open Go.RowKit

theorem call_ok {N : Nat} {fn : Func} (h : Try.prog.funcs[N]? = some fn) (h1 : (fn.name == "runtime.NumGoroutine") = false) (h2 : fn.body.isNone = false) (xs : Array Value) (u : World) :
    Sem.run Try.prog (callFunc N xs) u = .ok (.enter N xs) u := by
  have h3 : fn.name ≠ "runtime.NumGoroutine" := by simpa using h1
  have h4 : fn.body ≠ none := by intro e; rw [e] at h2; cases h2
  simp [callFunc, h, h3, h4, go_sem]
end Go.Proofs.Ytadfleopbpomfaa

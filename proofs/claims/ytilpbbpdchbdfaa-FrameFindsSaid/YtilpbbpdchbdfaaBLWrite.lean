
/- The law's own write. -/
import Derived.Test.YtilpbbpdchbdfaaBFields2
namespace Go.Proofs.Ytilpbbpdchbdfaa.Bit
open Go.RowKit
set_option maxRecDepth 100000

def wrSt (f : Fld) (st : List Nat × Int) : List Nat × Int :=
  if f.kind = 0 then wuns f.width f.n st else if f.kind = 1 then wsig f.width f.n st else if f.kind = 2 then wflag (f.n != 0) st else if f.kind = 3 then wtext f.width f.s st else st

theorem WrTo.after {w w1 w2 : World} {a : Nat} {d : Option Nat} {st : List Nat × Int} (k : Keeps (fun _ => False) w w1) (h : WrTo w1 a d st w2) : WrTo w a d st w2 :=
  WrTo.trans (k.mono (fun _ _ h => h.elim)) (fun _ h => .inl h) h

end Go.Proofs.Ytilpbbpdchbdfaa.Bit

/- How the fields of a frame are passed on, one behind the other, whoever takes them: writer or reader. -/
import Derived.Test.YtilpbbpdchbdfaaF3
import Derived.Test.YtilpbbpdchbdfaaBFields2
import Derived.Deep.RegionWith
namespace Go.Proofs.Ytilpbbpdchbdfaa
open Go.RowKit

def Fr.get (f : Fr) : Nat → Int
  | 0 => f.k | 1 => f.s | 2 => f.t | 3 => f.l | 4 => f.q | 5 => f.fl | 6 => f.n | 7 => f.e | 8 => f.sl | 9 => f.r | _ => f.ep
def Fr.set (f : Fr) (i : Nat) (v : Int) : Fr :=
  match i with
  | 0 => { f with k := v } | 1 => { f with s := v } | 2 => { f with t := v } | 3 => { f with l := v } | 4 => { f with q := v } | 5 => { f with fl := v } | 6 => { f with n := v } | 7 => { f with e := v } | 8 => { f with sl := v } | 9 => { f with r := v } | _ => { f with ep := v }
def stU {σ : Type} (U : Int → Int → σ → σ × Int) (i : Nat) (wd : Int) (x : σ × Fr) : σ × Fr := ((U wd (x.2.get i) x.1).1, x.2.set i (U wd (x.2.get i) x.1).2)
def stS {σ : Type} (Sg : Int → Int → σ → σ × Int) (wd : Int) (x : σ × Fr) : σ × Fr := ((Sg wd x.2.e x.1).1, { x.2 with e := (Sg wd x.2.e x.1).2 })
def stT {σ : Type} (Tx : Int → ByteArray → σ → σ × ByteArray) (x : σ × Fr) : σ × Fr := ((Tx 127 x.2.d x.1).1, { x.2 with d := (Tx 127 x.2.d x.1).2 })
/-- The Target, behind its flag. -/
def stG {σ : Type} (U : Int → Int → σ → σ × Int) (x : σ × Fr) : σ × Fr :=
  if (U 1 (if x.2.t = -1 then 0 else 1) x.1).2 = 1 then stU U 2 5 ((U 1 (if x.2.t = -1 then 0 else 1) x.1).1, x.2) else ((U 1 (if x.2.t = -1 then 0 else 1) x.1).1, { x.2 with t := -1 })
/-- The fields of a kind. -/
def stOwn {σ : Type} (U Sg : Int → Int → σ → σ × Int) (Tx : Int → ByteArray → σ → σ × ByteArray) (x : σ × Fr) : σ × Fr :=
  if x.2.k = 1 then stT Tx (stU U 6 16 (stU U 5 8 x)) else if x.2.k = 2 then stS Sg 16 x else if x.2.k = 3 then stT Tx (stU U 10 16 (stU U 9 16 (stU U 8 27 x))) else if x.2.k = 4 then stT Tx x else x
def stAll {σ : Type} (U Sg : Int → Int → σ → σ × Int) (Tx : Int → ByteArray → σ → σ × ByteArray) (x : σ × Fr) : σ × Fr :=
  stOwn U Sg Tx (stU U 4 8 (stU U 3 8 (stG U (stU U 1 5 (stU U 0 3 x)))))
end Go.Proofs.Ytilpbbpdchbdfaa

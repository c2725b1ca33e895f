/- What the rows' condition on the package-level variables gives: the table of a decade; and that the program's own start meets it. -/
import Derived.Test.YtjgbbafmjdapdaaDoorAwake
import Derived.Test.YtjgbbafmjdapdaaDoorCards
import Derived.Test.YtjgbbafmjdapdaaDoorTie
import Derived.ProofKit
import Derived.LaidMore
import Derived.OpenShut
import Derived.Stop.Joined
import Derived.Lib.LaidTab
import Derived.Stop.LaidErr
import Derived.SevenTiedAt
namespace Go.Proofs.YtjgbbafmjdapdaaDoor
open Go.ChangeShapes Go.WideShapes Go.ChangeAt Go.RowKit

def laidL {H : Type} : List (String × DataW H) := [("math/bits.deBruijn32tab", Rows.laid_math_bits_deBruijn32tab), ("math/bits.deBruijn64tab", Rows.laid_math_bits_deBruijn64tab), ("internal/strconv.uint64pow10", Rows.laid_internal_strconv_uint64pow10), ("hopmesh/power.decade", Rows.laid_hopmesh_power_decade)]
def doorSteps : Nat := 77
theorem own : ownKnob Tryd.prog.godebug = none := by kernel_rfl
theorem door_met (os : Os) (args : Array Value) : laidMetH Tryd.prog laidL ((World.doorLaid Tryd.prog doorSteps os).forCall (fun _ _ => 0) ⟨#[], args, []⟩).memory :=
  laidMetH_of_parts3 (fuel := 8) (laidMet_of_run' 8 (by kernel_rfl) (by kernel_rfl)) (by kernel_rfl) (by kernel_rfl)
theorem gDecade : Tryd.prog.globalNamed "hopmesh/power.decade" = some 0 := by kernel_rfl
theorem tDecade : (Tryd.prog.globals[0]?).map (·.type) = some 48 := by kernel_rfl
def decs : List Int := [1000, 1259, 1585, 1995, 2512, 3162, 3981, 5012, 6310, 7943]
theorem of_laid {W : World} (h : laidMetH Tryd.prog laidL W) : Tab W := by
  rw [MakeChecks.laidMetH_plain _ _ _ (by kernel_rfl)] at h
  have h1 : laidMet Tryd.prog [("math/bits.deBruijn32tab", Rows.laid_math_bits_deBruijn32tab), ("math/bits.deBruijn64tab", Rows.laid_math_bits_deBruijn64tab), ("internal/strconv.uint64pow10", Rows.laid_internal_strconv_uint64pow10), ("hopmesh/power.decade", Rows.laid_hopmesh_power_decade)] W := h
  have h4 : laidMet Tryd.prog [("hopmesh/power.decade", Lib.tabData .i64 decs)] W := laidMet.tail (laidMet.tail (laidMet.tail h1))
  have ht := Lib.tabIs_of_head gDecade tDecade Tryd.underlying48 Tryd.underlying3 (by kernel_rfl) (by kernel_rfl) h4
  intro i hi
  rw [ht.cell gDecade i hi]
  match i, hi with
  | 0, _ => rfl
  | 1, _ => rfl
  | 2, _ => rfl
  | 3, _ => rfl
  | 4, _ => rfl
  | 5, _ => rfl
  | 6, _ => rfl
  | 7, _ => rfl
  | 8, _ => rfl
  | 9, _ => rfl
  | n + 10, h => exact absurd h (by omega)
end Go.Proofs.YtjgbbafmjdapdaaDoor

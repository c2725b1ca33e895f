/- What Depths, Run and Spread return, as functions: both packages' answers are one. -/
import Derived.Test.YtffcoeadpicohaaRunB
import Derived.Test.YtffcoeadpicohaaTreeArgs
import Derived.Test.YtffcoeadpicohaaSpreadB
namespace Go.Proofs.Ytffcoeadpicohaa
open Go.RowKit

open Classical in
/-- The depths, or none. -/
noncomputable def depU (zs : List Int) : List Int × Int := if isTree zs then (depths zs zs.length, 0) else ([], 1)
theorem DepP.uni {w w' : World} {zs : List Int} {e : Ending} (h : DepP w zs e w') : ∃ v', e = .returned (.tuple #[v', .int .i64 (depU zs).2]) ∧ Same w w' ∧ Lst w' v' (depU zs).1.length (icells (depU zs).1) := by
  obtain ⟨v', x, rfl, hs, ⟨h1, rfl, h3⟩ | ⟨h1, rfl, rfl⟩⟩ := h
  · unfold depU; rw [if_pos h1]; exact ⟨v', rfl, hs, by rw [show (depths zs zs.length, (0 : Int)).1.length = zs.length from depths_length zs zs.length]; exact h3⟩
  · unfold depU; rw [if_neg h1]; exact ⟨_, rfl, hs, .inr ⟨_, _, rfl, rfl, rfl⟩⟩
theorem depU_length (zs : List Int) : (depU zs).1.length ≤ zs.length := by
  unfold depU
  split
  · exact Nat.le_of_eq (depths_length zs zs.length)
  · exact Nat.zero_le _
open Classical in
/-- The states behind all corrections, the one that fails, the error. -/
noncomputable def runU (l : List St) (zs : List Int) (xs : List Sn) : List St × Int × Int :=
  if RunOk l zs xs then (match runK zs.length zs l xs xs.length with | .error (i, er) => ([], (i : Int), er) | .ok l' => (l', -1, 0)) else ([], -1, 1)
theorem RunP.uni {w w' : World} {l : List St} {zs : List Int} {xs : List Sn} {e : Ending} (h : RunP w l zs xs e w') : ∃ v', e = .returned (.tuple #[v', .int .i64 (runU l zs xs).2.1, .int .i64 (runU l zs xs).2.2]) ∧ Same w w' ∧ Lst w' v' (runU l zs xs).1.length (ycells (runU l zs xs).1) := by
  obtain ⟨hs, ⟨h1, rfl⟩ | ⟨h1, i, er, h2, rfl⟩ | ⟨h1, l', v', h2, rfl, h3⟩⟩ := h
  · unfold runU; rw [if_neg h1]; exact ⟨_, rfl, hs, .inr ⟨_, _, rfl, rfl, rfl⟩⟩
  · unfold runU; rw [if_pos h1, h2]; exact ⟨_, rfl, hs, .inr ⟨_, _, rfl, rfl, rfl⟩⟩
  · unfold runU; rw [if_pos h1, h2]; exact ⟨_, rfl, hs, h3⟩
theorem runU_length (l : List St) (zs : List Int) (xs : List Sn) : (runU l zs xs).1.length ≤ l.length := by
  unfold runU
  split
  · split
    · exact Nat.zero_le _
    · rename_i h; exact Nat.le_of_eq (runK_length _ _ h)
  · exact Nat.zero_le _
/-- Two spreads of the same states are one. -/
theorem SprP.uni {l : List St} {t : Int} {w w' : World} {e : Ending} (h : SprP w l t e w') : ∀ w1 w1' e1, SprP w1 l t e1 w1' → e1 = e := by
  intro w1 w1' e1 h1
  obtain ⟨M, x, rfl, _, c⟩ := h
  obtain ⟨M1, x1, rfl, _, c1⟩ := h1
  rcases c with ⟨a1, a2, a3, rfl, a5⟩ | ⟨a1, rfl, rfl⟩ | ⟨a1, a2, a3, rfl, rfl⟩ <;> rcases c1 with ⟨b1, b2, b3, rfl, b5⟩ | ⟨b1, rfl, rfl⟩ | ⟨b1, b2, b3, rfl, rfl⟩
  · rw [b5.unique a5 (fun _ _ => Iff.rfl)]
  · exact absurd ⟨a1, a2⟩ b1
  · rw [a3] at b3; exact absurd b3 (by decide)
  · exact absurd ⟨b1, b2⟩ a1
  · rfl
  · exact absurd ⟨b1, b2⟩ a1
  · rw [a3] at b3; exact absurd b3 (by decide)
  · exact absurd ⟨a1, a2⟩ b1
  · rfl
end Go.Proofs.Ytffcoeadpicohaa

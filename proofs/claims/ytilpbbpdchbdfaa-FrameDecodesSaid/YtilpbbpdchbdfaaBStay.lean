
/- Behind an error a reader stays as it is: plain facts. -/
import Derived.Test.YtilpbbpdchbdfaaBFields2
namespace Go.Proofs.Ytilpbbpdchbdfaa.Bit
open Go.RowKit
set_option maxRecDepth 100000

theorem rnum_stay {s : ByteArray} {l wd : Int} {st : Nat × Int} (h : st.2 ≠ 0) : rnum s l wd st = (st, 0) := by unfold rnum; rw [if_pos h]
theorem rdSt_stay {s : ByteArray} {f : Fld} {st : Nat × Int} (h : st.2 ≠ 0) : rdSt s f st = st := by
  unfold rdSt rsig rflag rtext
  simp only [rnum_stay h, if_pos h]
  split
  · rfl
  · split
    · rfl
    · split
      · rfl
      · split <;> rfl
theorem rdF_stay {s : ByteArray} {f : Fld} {st : Nat × Int} (h : st.2 ≠ 0) (h1 : 0 ≤ f.kind) (h2 : f.kind ≤ 3) : (rdF s f st).n = 0 ∧ (rdF s f st).s = ⟨#[]⟩ := by
  unfold rdF rsig rflag rtext
  simp only [rnum_stay h, if_pos h]
  split
  · exact ⟨rfl, rfl⟩
  · split
    · exact ⟨rfl, rfl⟩
    · split
      · exact ⟨rfl, rfl⟩
      · rw [if_pos (by omega)]; exact ⟨rfl, rfl⟩

end Go.Proofs.Ytilpbbpdchbdfaa.Bit


/- The reference writer: its bytes. -/
import Derived.Test.YtilpbbpdchbdfaaBRefW4
namespace Go.Proofs.Ytilpbbpdchbdfaa.Bit
open Go.RowKit
set_option maxRecDepth 100000

theorem bytes2_bad (w : World) (a : Nat) (st : List Nat × Int) (d : Option Nat) (h : Wr2 w a st d) (h0 : st.2 ≠ 0) :
    Calls Try.prog 36 #[.pointer (some ⟨a, 0, none⟩)] w fun e w' => e = .returned (.tuple #[.string ⟨#[]⟩, .int .i64 st.2]) ∧ WrSame w w' := by
  obtain ⟨v, h1, h2⟩ := h.cells
  obtain ⟨k0, k1, f0, f1⟩ := block2_cell h1
  have H0 := (show (st.2 != 0) = true by simpa using h0)
  clear h h1 h2 h0
  go_enter Try.func36, Try.ntmps36
  go_wp2
  go_region
  all_goals go_wp2
  all_goals go_ret2
  all_goals exact ⟨rfl, (Keeps.refl _ w).drew⟩
end Go.Proofs.Ytilpbbpdchbdfaa.Bit

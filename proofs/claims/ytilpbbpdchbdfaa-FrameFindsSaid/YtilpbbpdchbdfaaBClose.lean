
/- The reader's end. -/
import Derived.Test.YtilpbbpdchbdfaaBReader3
namespace Go.Proofs.Ytilpbbpdchbdfaa.Bit
open Go.RowKit
set_option maxRecDepth 100000

def rclose (s : ByteArray) (st : Nat × Int) : Int := if st.2 ≠ 0 then st.2 else if 8 ≤ 8 * s.size - st.1 then 10 else if val (sbits s st.1 (8 * s.size - st.1)) ≠ 0 then 10 else 0

theorem close_bad (w : World) (a : Nat) (er : Int) (h : ReBad w a er) (h0 : (er != 0) = true) :
    Calls Try.prog 83 #[.pointer (some ⟨a, 0, none⟩)] w fun e w' => e = .returned (.int .i64 er) ∧ WrSame w w' := by
  obtain ⟨k0, k1, k2, f0, f1, f2⟩ := block3_cell h
  clear h
  go_enter Try.func83, Try.ntmps83
  go_wp2
  go_ret
  exact ⟨rfl, Keeps.refl _ _⟩

theorem close_ok (w : World) (a : Nat) (s : ByteArray) (k : Nat) (h : ReOk w a s k) :
    Calls Try.prog 83 #[.pointer (some ⟨a, 0, none⟩)] w fun e w' => e = .returned (.int .i64 (rclose s (k, 0))) ∧ WrSame w w' := by
  obtain ⟨g1, g2, h⟩ := h
  obtain ⟨k0, k1, k2, f0, f1, f2⟩ := block3_cell h
  have hre : ReOk (w.alloc (.cells #[.string s, .int .i64 k, .int .i64 0] 113)) w.heap.size s k := ⟨g1, g2, heap_alloc_new w _⟩
  have hl : ∀ w1, ReOk w1 w.heap.size s k → Calls Try.prog 106 #[.pointer (some ⟨w.heap.size, 0, none⟩)] w1 fun e w' => e = .returned (.int .i64 ((8 * s.size - k : Nat) : Int)) ∧ w' = w1.drew := fun w1 h1 => left_any w1 _ s k 0 h1.1 h1.2.1 h1.2.2
  have hk1 : Keeps (fun _ => False) w (w.alloc (.cells #[.string s, .int .i64 k, .int .i64 0] 113)) := (Keeps.refl _ w).alloc _
  unfold rclose
  rw [if_neg (by simp)]
  by_cases hm : 8 ≤ 8 * s.size - k
  · rw [if_pos hm]
    generalize 8 * s.size - k = m at *
    have HL := Lib.hid hl; clear hl
    have HR := Lib.hid hre; clear hre
    have HK := Lib.hid hk1; clear hk1 h
    go_enter Try.func83, Try.ntmps83
    go_wp2_with (first | (go_at_call 106; refine (HL.out _ (by exact HR.out)).mono ?_; rintro e w1 ⟨rfl, rfl⟩))
    go_ret
    exact ⟨rfl, HK.out.drew⟩
  · rw [if_neg hm]
    have ht : ∀ w1, ReOk w1 w.heap.size s k → Calls Try.prog 108 #[.pointer (some ⟨w.heap.size, 0, none⟩), .int .i64 ((8 * s.size - k : Nat) : Int)] w1 fun e w' => e = .returned (.int .i64 (val (sbits s k (8 * s.size - k)))) ∧ TakeEnd w1 w.heap.size s k (8 * s.size - k) w' := fun w1 h1 => take_any w1 _ s k _ h1 (by omega) (by omega)
    generalize 8 * s.size - k = m at *
    generalize val (sbits s k m) = v at *
    have HL := Lib.hid hl; clear hl
    have HT := Lib.hid ht; clear ht
    have HR := Lib.hid hre; clear hre
    have HK := Lib.hid hk1; clear hk1 h
    have hm' : m < 8 := by omega
    clear hm
    by_cases hv : v ≠ 0
    · rw [if_pos hv]
      have hv' : ((v : Int) != 0) = true := by rw [bne_iff_ne]; omega
      have HV := Lib.hid hv; clear hv
      go_enter Try.func83, Try.ntmps83
      go_wp2_with (first | (go_at_call 106; refine (HL.out _ (by exact HR.out)).mono ?_; rintro e w1 ⟨rfl, rfl⟩) | (go_at_call 108; refine (HT.out _ (by exact HR.out)).mono ?_; rintro e w2 ⟨rfl, ht⟩))
      go_ret
      exact ⟨rfl, HK.out.drew.drew.trans ht.2 (fun _ h => h) (fun i hi h => by subst h; exact absurd hi (Nat.lt_irrefl _))⟩
    · rw [if_neg hv]
      obtain rfl : v = 0 := by simpa using hv
      clear hv
      go_enter Try.func83, Try.ntmps83
      go_wp2_with (first | (go_at_call 106; refine (HL.out _ (by exact HR.out)).mono ?_; rintro e w1 ⟨rfl, rfl⟩) | (go_at_call 108; refine (HT.out _ (by exact HR.out)).mono ?_; rintro e w2 ⟨rfl, ht⟩))
      go_ret
      exact ⟨rfl, HK.out.drew.drew.trans ht.2 (fun _ h => h) (fun i hi h => by subst h; exact absurd hi (Nat.lt_irrefl _))⟩

theorem rclose_any (w : World) (a : Nat) (s : ByteArray) (st : Nat × Int) (h : Re w a s st) :
    Calls Try.prog 83 #[.pointer (some ⟨a, 0, none⟩)] w fun e w' => e = .returned (.int .i64 (rclose s st)) ∧ WrSame w w' := by
  rcases h with ⟨h0, h⟩ | ⟨h0, h⟩
  · obtain ⟨k, er⟩ := st
    simp only at h0 h
    subst h0
    exact close_ok w a s k h
  · have e : rclose s st = st.2 := by unfold rclose; rw [if_pos h0]
    rw [e]
    exact close_bad w a st.2 h (by simpa using h0)
end Go.Proofs.Ytilpbbpdchbdfaa.Bit


/- The reader's inner calls. -/
import Derived.Test.YtilpbbpdchbdfaaBWriter2
import Derived.Test.YtilpbbpdchbdfaaBPlainR
namespace Go.Proofs.Ytilpbbpdchbdfaa.Bit
open Go.RowKit

/-- A reader without an error at block a: of the string s, k bits are read. -/
def ReOk (w : World) (a : Nat) (s : ByteArray) (k : Nat) : Prop :=
  k ≤ 8 * s.size ∧ s.size ≤ 65536 ∧ w.heap[a]? = some (.cells #[.string s, .int .i64 k, .int .i64 0] 113 (0, 0))
def ReBad (w : World) (a : Nat) (er : Int) : Prop :=
  w.heap[a]? = some (.cells #[.string ⟨#[]⟩, .int .i64 0, .int .i64 er] 113 (0, 0))
theorem ReOk.keep {S : Nat → Prop} {w w' : World} {a : Nat} {s : ByteArray} {k : Nat} (h : ReOk w a s k) (hk : Keeps S w w') (ha : ¬ S a) : ReOk w' a s k := ⟨h.1, h.2.1, hk.at h.2.2 ha⟩
theorem ReBad.keep {S : Nat → Prop} {w w' : World} {a : Nat} {er : Int} (h : ReBad w a er) (hk : Keeps S w w') (ha : ¬ S a) : ReBad w' a er := hk.at h ha

def TakeAt (w : World) (a : Nat) (s : ByteArray) (k n : Nat) (v i : Value) (wr : World) : Prop :=
  ∃ j : Nat, j ≤ n ∧ i = .int .i64 j ∧ v = .int .i64 (val (sbits s k j)) ∧ ReOk wr a s (k + j) ∧ Keeps (fun i => i = a) w wr

def TakeEnd (w : World) (a : Nat) (s : ByteArray) (k n : Nat) (w' : World) : Prop := ReOk w' a s (k + n) ∧ Keeps (fun i => i = a) w w'

theorem take_any (w : World) (a : Nat) (s : ByteArray) (k n : Nat) (h : ReOk w a s k) (hn : n ≤ 63) (hk : k + n ≤ 8 * s.size) :
    Calls Try.prog 108 #[.pointer (some ⟨a, 0, none⟩), .int .i64 n] w fun e w' => e = .returned (.int .i64 (val (sbits s k n))) ∧ TakeEnd w a s k n w' := by
  have H := Lib.hid h; clear h
  go_enter Try.func108, Try.ntmps108
  go_wp2
  go_loopw [5, 8] (fun v i wr => TakeAt w a s k n v i wr) (fun _ i wr => n - (intOf i).toNat)
  case atStart => exact ⟨0, Nat.zero_le _, rfl, rfl, H.out, Keeps.refl _ _⟩
  case round =>
    obtain ⟨j, hj, rfl, rfl, ⟨h1, h2, h3⟩, hk1⟩ := hrel
    obtain ⟨k0, k1, k2, f0, f1, f2⟩ := block3_cell h3
    by_cases hlt : j < n
    · have hb3 := (block3_set (u := .int .i64 ((k + j : Nat) + 1 : Int)) h3).2.1
      have HB := Lib.hid hb3; clear hb3 h3
      have hvl := val_sbits_lt s k j
      have hpow : 2 ^ j ≤ 4611686018427387904 := by
        have := Nat.pow_le_pow_right (show 0 < 2 by omega) (show j ≤ 62 by omega); simpa using this
      have hvs := val_sbits_succ s k j
      generalize hv : val (sbits s k j) = v at *
      have HV := Lib.hid hv; clear hv
      have hv2 : v < 4611686018427387904 := by omega
      have HVS := Lib.hid hvs; clear hvs
      clear hvl hpow
      have HK := Lib.hid hk1; clear hk1
      have hq8 : k + j < 8 * s.size := by omega
      generalize hq : k + j = q at *
      have HQ := Lib.hid hq; clear hq
      have hidx : q / 8 < s.size := by omega
      have hidx1 : (q : Int) / 8 < s.size := by omega
      have hidx0 : 0 ≤ (q : Int) / 8 := by omega
      have hq9 : q ≤ 524288 := by omega
      have H2s := Lib.hid h2
      clear h1 h2 hq8
      go_wp2
      go_region
      all_goals go_wp2
      all_goals
        go_roundw
        case rel =>
          refine ⟨j + 1, by omega, by go_num, ?_, ?_, ?_⟩
          · rw [take_val s v q hv2 hidx, ← HVS.out]
          · exact ⟨by omega, H2s.out, by have := HB.out; rw [← HQ.out] at this ⊢; exact this⟩
          · exact (HK.out.setCell (fun _ => rfl) _).drew
        case measure => simp [intOf]; omega
    · have hjn : j = n := by omega
      subst hjn
      have HK := Lib.hid hk1; clear hk1
      have H3 := Lib.hid h3; clear h3
      go_wp2
      go_ret
      exact ⟨rfl, ⟨h1, h2, H3.out⟩, HK.out⟩

theorem left_any (w : World) (a : Nat) (s : ByteArray) (k : Nat) (er : Int) (hk : k ≤ 8 * s.size) (hs : s.size ≤ 65536) (h : w.heap[a]? = some (.cells #[.string s, .int .i64 k, .int .i64 er] 113 (0, 0))) :
    Calls Try.prog 106 #[.pointer (some ⟨a, 0, none⟩)] w fun e w' => e = .returned (.int .i64 ((8 * s.size - k : Nat) : Int)) ∧ w' = w.drew := by
  obtain ⟨k0, k1, k2, f0, f1, f2⟩ := block3_cell h
  clear h
  have e : ((8 * s.size - k : Nat) : Int) = 8 * (s.size : Int) - k := by omega
  rw [e]
  clear e
  go_enter Try.func106, Try.ntmps106
  go_wp2
  go_region
  all_goals go_wp2
  all_goals go_ret
  all_goals exact ⟨rfl, rfl⟩
def ReFell (w : World) (a : Nat) (er : Int) (w' : World) : Prop := ReBad w' a er ∧ Keeps (fun i => i = a) w w'
theorem rfail_ok (w : World) (a : Nat) (s : ByteArray) (k : Nat) (er : Int) (h : ReOk w a s k) :
    Calls Try.prog 105 #[.pointer (some ⟨a, 0, none⟩), .int .i64 er] w fun e w' => e = .returned (.tuple #[]) ∧ ReFell w a er w' := by
  obtain ⟨_, _, h⟩ := h
  obtain ⟨k0, k1, k2, f0, f1, f2⟩ := block3_cell h
  have hb := (block3_set (u := .int .i64 er) (block3_set (u := .int .i64 0) (block3_set (u := .string ⟨#[]⟩) h).1).2.1).2.2
  have HB := Lib.hid hb; clear hb h
  go_enter Try.func105, Try.ntmps105
  go_wp2
  go_end0
  have hk : Keeps (fun i => i = a) w (((w.setCell ⟨a, 0, none⟩ (.string ⟨#[]⟩)).setCell ⟨a, 1, none⟩ (.int .i64 0)).setCell ⟨a, 2, none⟩ (.int .i64 er)) :=
    (((Keeps.refl (fun i => i = a) w).setCell (p := ⟨a, 0, none⟩) (fun _ => rfl) _).setCell (p := ⟨a, 1, none⟩) (fun _ => rfl) _).setCell (p := ⟨a, 2, none⟩) (fun _ => rfl) _
  exact ⟨rfl, HB.out, hk⟩
theorem rfail_bad (w : World) (a : Nat) (e0 er : Int) (h : ReBad w a e0) (h0 : (e0 == 0) = false) :
    Calls Try.prog 105 #[.pointer (some ⟨a, 0, none⟩), .int .i64 er] w fun e w' => e = .returned (.tuple #[]) ∧ w = w' := by
  obtain ⟨k0, k1, k2, f0, f1, f2⟩ := block3_cell h
  clear h
  go_enter Try.func105, Try.ntmps105
  go_wp2
  go_end0
  exact ⟨rfl, rfl⟩
end Go.Proofs.Ytilpbbpdchbdfaa.Bit

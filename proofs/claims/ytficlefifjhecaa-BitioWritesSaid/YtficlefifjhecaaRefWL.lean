/- The law's own write to the reference. -/
import Derived.Test.YtficlefifjhecaaRefW6
import Derived.Test.YtficlefifjhecaaLWrite
namespace Go.Proofs.Ytficlefifjhecaa
open Go.RowKit

theorem WrTo2.after {w w1 w2 : World} {a : Nat} {d : Option Nat} {st : List Nat × Int} (k : Keeps (fun _ => False) w w1) (h : WrTo2 w1 a d st w2) : WrTo2 w a d st w2 :=
  WrTo2.step (k.mono (fun _ _ h => h.elim)) (fun _ h => .inl h) h

theorem lref_0 (w : World) (a : Nat) (st : List Nat × Int) (d : Option Nat) (h : Wr2 w a st d) (wd n : Int) (hn : n ≤ 9223372036854775807) (t : ByteArray) :
    Calls Try.prog 16 #[.pointer (some ⟨a, 0, none⟩), .agg #[.int .i64 0, .int .i64 wd, .int .i64 n, .string t]] w fun e w' => e = .returned (.tuple #[]) ∧ WrTo2 w a d (wuns wd n st) w' := by
  have hc := unsigned2w_any (box1 w ⟨0, wd, n, t⟩) a st d (h.keep (box1_keep _ _) (fun h => h) (fun _ _ h => h)) wd n hn
  generalize wuns wd n st = r at *
  have HC := Lib.hid hc; clear hc h hn
  go_enter Try.func16, Try.ntmps16
  go_wp2_with (go_at_call 43; refine (HC.out).mono ?_; rintro e w1 ⟨rfl, hr⟩)
  go_end0
  exact ⟨rfl, WrTo2.after (box1_keep _ _) hr⟩
theorem lref_1 (w : World) (a : Nat) (st : List Nat × Int) (d : Option Nat) (h : Wr2 w a st d) (wd n : Int) (t : ByteArray) :
    Calls Try.prog 16 #[.pointer (some ⟨a, 0, none⟩), .agg #[.int .i64 1, .int .i64 wd, .int .i64 n, .string t]] w fun e w' => e = .returned (.tuple #[]) ∧ WrTo2 w a d (wsig wd n st) w' := by
  have hc := signed2w_any (box1 w ⟨1, wd, n, t⟩) a st d (h.keep (box1_keep _ _) (fun h => h) (fun _ _ h => h)) wd n
  generalize wsig wd n st = r at *
  have HC := Lib.hid hc; clear hc h
  go_enter Try.func16, Try.ntmps16
  go_wp2_with (go_at_call 44; refine (HC.out).mono ?_; rintro e w1 ⟨rfl, hr⟩)
  go_end0
  exact ⟨rfl, WrTo2.after (box1_keep _ _) hr⟩
theorem lref_2 (w : World) (a : Nat) (st : List Nat × Int) (d : Option Nat) (h : Wr2 w a st d) (wd n : Int) (t : ByteArray) :
    Calls Try.prog 16 #[.pointer (some ⟨a, 0, none⟩), .agg #[.int .i64 2, .int .i64 wd, .int .i64 n, .string t]] w fun e w' => e = .returned (.tuple #[]) ∧ WrTo2 w a d (wflag (n != 0) st) w' := by
  have hc := flag2w_any (box1 w ⟨2, wd, n, t⟩) a st d (h.keep (box1_keep _ _) (fun h => h) (fun _ _ h => h)) (n != 0)
  generalize wflag (n != 0) st = r at *
  have HC := Lib.hid hc; clear hc h
  go_enter Try.func16, Try.ntmps16
  go_wp2_with (go_at_call 45; refine (HC.out).mono ?_; rintro e w1 ⟨rfl, hr⟩)
  go_end0
  exact ⟨rfl, WrTo2.after (box1_keep _ _) hr⟩
theorem lref_3 (w : World) (a : Nat) (st : List Nat × Int) (d : Option Nat) (h : Wr2 w a st d) (wd n : Int) (t : ByteArray) :
    Calls Try.prog 16 #[.pointer (some ⟨a, 0, none⟩), .agg #[.int .i64 3, .int .i64 wd, .int .i64 n, .string t]] w fun e w' => e = .returned (.tuple #[]) ∧ WrTo2 w a d (wtext wd t st) w' := by
  have hc := text2w_any (box1 w ⟨3, wd, n, t⟩) a st d (h.keep (box1_keep _ _) (fun h => h) (fun _ _ h => h)) wd t
  generalize wtext wd t st = r at *
  have HC := Lib.hid hc; clear hc h
  go_enter Try.func16, Try.ntmps16
  go_wp2_with (go_at_call 46; refine (HC.out).mono ?_; rintro e w1 ⟨rfl, hr⟩)
  go_end0
  exact ⟨rfl, WrTo2.after (box1_keep _ _) hr⟩
theorem lref_9 (w : World) (a : Nat) (st : List Nat × Int) (d : Option Nat) (h : Wr2 w a st d) (k wd n : Int) (hk : k < 0 ∨ 3 < k) (t : ByteArray) :
    Calls Try.prog 16 #[.pointer (some ⟨a, 0, none⟩), .agg #[.int .i64 k, .int .i64 wd, .int .i64 n, .string t]] w fun e w' => e = .returned (.tuple #[]) ∧ WrTo2 w a d st w' := by
  have k0 : (k == 0) = false := by rw [beq_eq_false_iff_ne]; omega
  have k1 : (k == 1) = false := by rw [beq_eq_false_iff_ne]; omega
  have k2 : (k == 2) = false := by rw [beq_eq_false_iff_ne]; omega
  have k3 : (k == 3) = false := by rw [beq_eq_false_iff_ne]; omega
  have H := Lib.hid h; clear h hk
  go_enter Try.func16, Try.ntmps16
  go_wp2
  go_end0
  exact ⟨rfl, WrTo2.after (box1_keep w ⟨k, wd, n, t⟩) (H.out.keep (box1_keep w ⟨k, wd, n, t⟩) (fun h => h) (fun _ _ h => h)).stays⟩

theorem lref_any (w : World) (a : Nat) (st : List Nat × Int) (d : Option Nat) (h : Wr2 w a st d) (f : Fld) (hn : f.n ≤ 9223372036854775807) :
    Calls Try.prog 16 #[.pointer (some ⟨a, 0, none⟩), .agg #[.int .i64 f.kind, .int .i64 f.width, .int .i64 f.n, .string f.s]] w fun e w' => e = .returned (.tuple #[]) ∧ WrTo2 w a d (wrSt f st) w' := by
  obtain ⟨k, wd, n, t⟩ := f
  dsimp only at hn
  by_cases k0 : k = 0
  · subst k0; exact lref_0 w a st d h wd n hn t
  by_cases k1 : k = 1
  · subst k1; exact lref_1 w a st d h wd n t
  by_cases k2 : k = 2
  · subst k2; exact lref_2 w a st d h wd n t
  by_cases k3 : k = 3
  · subst k3; exact lref_3 w a st d h wd n t
  have e2 : wrSt ⟨k, wd, n, t⟩ st = st := by unfold wrSt; rw [if_neg k0, if_neg k1, if_neg k2, if_neg k3]
  rw [e2]
  exact lref_9 w a st d h k wd n (by omega) t
end Go.Proofs.Ytficlefifjhecaa

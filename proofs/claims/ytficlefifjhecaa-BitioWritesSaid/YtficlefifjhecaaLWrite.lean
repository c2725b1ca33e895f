/- The law's own write. -/
import Derived.Test.YtficlefifjhecaaFields2
namespace Go.Proofs.Ytficlefifjhecaa
open Go.RowKit

def wrSt (f : Fld) (st : List Nat × Int) : List Nat × Int :=
  if f.kind = 0 then wuns f.width f.n st else if f.kind = 1 then wsig f.width f.n st else if f.kind = 2 then wflag (f.n != 0) st else if f.kind = 3 then wtext f.width f.s st else st

def box1 (w : World) (f : Fld) : World := w.alloc (.cells #[.int .i64 f.kind, .int .i64 f.width, .int .i64 f.n, .string f.s] 30)
theorem box1_keep (w : World) (f : Fld) : Keeps (fun _ => False) w (box1 w f) := (Keeps.refl _ w).alloc _
theorem WrTo.after {w w1 w2 : World} {a : Nat} {d : Option Nat} {st : List Nat × Int} (k : Keeps (fun _ => False) w w1) (h : WrTo w1 a d st w2) : WrTo w a d st w2 :=
  WrTo.trans (k.mono (fun _ _ h => h.elim)) (fun _ h => .inl h) h

theorem lwrite_0 (w : World) (a : Nat) (st : List Nat × Int) (d : Option Nat) (h : Wr w a st d) (wd n : Int) (t : ByteArray) :
    Calls Try.prog 15 #[.pointer (some ⟨a, 0, none⟩), .agg #[.int .i64 0, .int .i64 wd, .int .i64 n, .string t]] w fun e w' => e = .returned (.tuple #[]) ∧ WrTo w a d (wuns wd n st) w' := by
  have hc := wunsigned_any (box1 w ⟨0, wd, n, t⟩) a st d (h.keep (box1_keep _ _) (fun h => h) (fun _ _ h => h)) wd n
  generalize wuns wd n st = r at *
  have HC := Lib.hid hc; clear hc h
  go_enter Try.func15, Try.ntmps15
  go_wp2_with (go_at_call 35; refine (HC.out).mono ?_; rintro e w1 ⟨rfl, hr⟩)
  go_end0
  exact ⟨rfl, WrTo.after (box1_keep _ _) hr⟩
theorem lwrite_1 (w : World) (a : Nat) (st : List Nat × Int) (d : Option Nat) (h : Wr w a st d) (wd n : Int) (t : ByteArray) :
    Calls Try.prog 15 #[.pointer (some ⟨a, 0, none⟩), .agg #[.int .i64 1, .int .i64 wd, .int .i64 n, .string t]] w fun e w' => e = .returned (.tuple #[]) ∧ WrTo w a d (wsig wd n st) w' := by
  have hc := wsigned_any (box1 w ⟨1, wd, n, t⟩) a st d (h.keep (box1_keep _ _) (fun h => h) (fun _ _ h => h)) wd n
  generalize wsig wd n st = r at *
  have HC := Lib.hid hc; clear hc h
  go_enter Try.func15, Try.ntmps15
  go_wp2_with (go_at_call 36; refine (HC.out).mono ?_; rintro e w1 ⟨rfl, hr⟩)
  go_end0
  exact ⟨rfl, WrTo.after (box1_keep _ _) hr⟩
theorem lwrite_2 (w : World) (a : Nat) (st : List Nat × Int) (d : Option Nat) (h : Wr w a st d) (wd n : Int) (t : ByteArray) :
    Calls Try.prog 15 #[.pointer (some ⟨a, 0, none⟩), .agg #[.int .i64 2, .int .i64 wd, .int .i64 n, .string t]] w fun e w' => e = .returned (.tuple #[]) ∧ WrTo w a d (wflag (n != 0) st) w' := by
  have hc := wflag_any (box1 w ⟨2, wd, n, t⟩) a st d (h.keep (box1_keep _ _) (fun h => h) (fun _ _ h => h)) (n != 0)
  generalize wflag (n != 0) st = r at *
  have HC := Lib.hid hc; clear hc h
  go_enter Try.func15, Try.ntmps15
  go_wp2_with (go_at_call 39; refine (HC.out).mono ?_; rintro e w1 ⟨rfl, hr⟩)
  go_end0
  exact ⟨rfl, WrTo.after (box1_keep _ _) hr⟩
theorem lwrite_3 (w : World) (a : Nat) (st : List Nat × Int) (d : Option Nat) (h : Wr w a st d) (wd n : Int) (hwd : wd ≤ 9223372036854775807) (t : ByteArray) (ht : t.size ≤ 9223372036854775807) :
    Calls Try.prog 15 #[.pointer (some ⟨a, 0, none⟩), .agg #[.int .i64 3, .int .i64 wd, .int .i64 n, .string t]] w fun e w' => e = .returned (.tuple #[]) ∧ WrTo w a d (wtext wd t st) w' := by
  have hc := wtext_any (box1 w ⟨3, wd, n, t⟩) a st d (h.keep (box1_keep _ _) (fun h => h) (fun _ _ h => h)) wd hwd t ht
  generalize wtext wd t st = r at *
  have HC := Lib.hid hc; clear hc h hwd ht
  go_enter Try.func15, Try.ntmps15
  go_wp2_with (go_at_call 38; refine (HC.out).mono ?_; rintro e w1 ⟨rfl, hr⟩)
  go_end0
  exact ⟨rfl, WrTo.after (box1_keep _ _) hr⟩
theorem lwrite_9 (w : World) (a : Nat) (st : List Nat × Int) (d : Option Nat) (h : Wr w a st d) (k wd n : Int) (hk : k < 0 ∨ 3 < k) (t : ByteArray) :
    Calls Try.prog 15 #[.pointer (some ⟨a, 0, none⟩), .agg #[.int .i64 k, .int .i64 wd, .int .i64 n, .string t]] w fun e w' => e = .returned (.tuple #[]) ∧ WrTo w a d st w' := by
  have k0 : (k == 0) = false := by rw [beq_eq_false_iff_ne]; omega
  have k1 : (k == 1) = false := by rw [beq_eq_false_iff_ne]; omega
  have k2 : (k == 2) = false := by rw [beq_eq_false_iff_ne]; omega
  have k3 : (k == 3) = false := by rw [beq_eq_false_iff_ne]; omega
  have H := Lib.hid h; clear h hk
  go_enter Try.func15, Try.ntmps15
  go_wp2
  go_end0
  exact ⟨rfl, WrTo.same H.out (box1_keep w ⟨k, wd, n, t⟩)⟩

theorem lwrite_any (w : World) (a : Nat) (st : List Nat × Int) (d : Option Nat) (h : Wr w a st d) (f : Fld) (hwd : f.width ≤ 9223372036854775807) (ht : f.s.size ≤ 9223372036854775807) :
    Calls Try.prog 15 #[.pointer (some ⟨a, 0, none⟩), fldV f] w fun e w' => e = .returned (.tuple #[]) ∧ WrTo w a d (wrSt f st) w' := by
  obtain ⟨k, wd, n, t⟩ := f
  dsimp only at hwd ht
  by_cases k0 : k = 0
  · subst k0; exact lwrite_0 w a st d h wd n t
  by_cases k1 : k = 1
  · subst k1; exact lwrite_1 w a st d h wd n t
  by_cases k2 : k = 2
  · subst k2; exact lwrite_2 w a st d h wd n t
  by_cases k3 : k = 3
  · subst k3; exact lwrite_3 w a st d h wd n hwd t ht
  have e2 : wrSt ⟨k, wd, n, t⟩ st = st := by unfold wrSt; rw [if_neg k0, if_neg k1, if_neg k2, if_neg k3]
  rw [e2]
  exact lwrite_9 w a st d h k wd n (by omega) t

/-- The same in a call that has made the writer itself. -/
theorem lwrite_new {w w0 : World} {a : Nat} {st : List Nat × Int} (h : NewWr w a st w0) (f : Fld) (hwd : f.width ≤ 9223372036854775807) (ht : f.s.size ≤ 9223372036854775807) :
    Calls Try.prog 15 #[.pointer (some ⟨a, 0, none⟩), .agg #[.int .i64 f.kind, .int .i64 f.width, .int .i64 f.n, .string f.s]] w0 fun e w1 => e = .returned (.tuple #[]) ∧ NewWr w a (wrSt f st) w1 :=
  h.call (fun d hd => lwrite_any w0 a st d hd f hwd ht)
end Go.Proofs.Ytficlefifjhecaa

/- Decibels as texts: Itoa, and Format of both. -/
import Derived.Test.YtjgbbafmjdapdaaDoorLaid
import Derived.Test.YtjgbbafmjdapdaaDoorDec2
import Derived.Test.YtjgbbafmjdapdaaDoorShelfT
namespace Go.Proofs.YtjgbbafmjdapdaaDoor
open Go.RowKit

theorem var_same {w w' : World} {n : String} {cs : Array Value} (h : w.var? Tryd.prog n = some cs) (s : Same w w') : w'.var? Tryd.prog n = some cs := by
  unfold World.var? at h ⊢
  cases hg : Tryd.prog.globalNamed n with
  | none => simp [hg] at h
  | some g =>
    simp only [hg, Option.bind_some] at h ⊢
    have hlt : g < w.heap.size := by
      rcases Nat.lt_or_ge g w.heap.size with h' | h'
      · exact h'
      · simp [Array.getElem?_eq_none h'] at h
    rw [s.block g hlt]
    exact h
/-- What the statement's condition gives: the tables of a decade and of the powers of ten, and the error variable. -/
structure Tb (w : World) : Prop where
  dec : Tab w
  pow : Lib.TabIs Tryd.prog w "internal/strconv.uint64pow10" .u64 Lib.pow10Tab
  err : ∃ tp p, w.var? Tryd.prog "strconv.ErrRange" = some #[.iface tp p]
theorem Tb.same {w w' : World} (h : Tb w) (s : Same w w') : Tb w' :=
  ⟨h.dec.same s, var_same h.pow s, by obtain ⟨tp, p, e⟩ := h.err; exact ⟨tp, p, var_same e s⟩⟩

def num (i : Nat) : ByteArray := if i < 10 then ⟨#[UInt8.ofNat (48 + i)]⟩ else if i < 100 then ⟨#[UInt8.ofNat (48 + i / 10), UInt8.ofNat (48 + i % 10)]⟩ else ⟨#[UInt8.ofNat (48 + i / 10 / 10), UInt8.ofNat (48 + i / 10 % 10), UInt8.ofNat (48 + i % 10)]⟩
theorem itoa_num (d : Nat) (h : d < 1000) : (⟨(Lib.itoa (d : Int)).toArray⟩ : ByteArray) = num d := by
  unfold Lib.itoa num
  rw [if_neg (by omega), Int.toNat_natCast, Lib.decDigits]
  by_cases h1 : d < 10
  · rw [dif_pos h1, if_pos h1]
  · rw [dif_neg h1, if_neg h1, Lib.decDigits]
    by_cases h2 : d < 100
    · rw [dif_pos (by omega), if_pos h2]; rfl
    · rw [dif_neg (by omega), if_neg h2, Lib.decDigits, dif_pos (by omega)]; rfl
theorem same_grow (w : World) (k : Nat) (os : Array Obj) : Same w (Sort.grow (w.drewN k) os) :=
  ⟨rfl, rfl, rfl, by show w.heap.size ≤ (w.heap ++ os).size; simp, fun i hi => by show (w.heap ++ os)[i]? = _; rw [Array.getElem?_append_left hi]⟩
theorem itoa_any (d : Nat) (h : d ≤ 108) (w : World) (ht : Tb w) : Calls Tryd.prog 41 #[.int .i64 (d : Int)] w fun e w' => e = .returned (.string (num d)) ∧ Same w w' := by
  refine (Tryd.strconv_Itoa (d : Int) (by omega) (by omega) w ht.pow).mono fun e w' ⟨he, hw⟩ => ?_
  obtain ⟨k, os, rfl⟩ := hw
  exact ⟨by rw [he, itoa_num d (by omega)], same_grow w k os⟩
theorem num_size (i : Nat) : (num i).size ≤ 3 := by unfold num; split; exact (by decide : 1 ≤ 3); split; exact (by decide : 2 ≤ 3); exact (by decide : 3 ≤ 3)
def unitB : ByteArray := ⟨#[32, 100, 66]⟩
def fmtS (p : Int) : ByteArray × Int := if Ok p then (num (dcb p) ++ unitB, 0) else (⟨#[]⟩, 2)
theorem ret_se {a b : ByteArray} {c : Int} (h : a = b) : Ending.returned (.tuple #[.string a, .int .i64 c]) = .returned (.tuple #[.string b, .int .i64 c]) := by rw [h]
theorem format_any (p : Int) (w : World) (ht : Tb w) : Calls Tryd.prog 27 #[.int .i64 p] w fun e w' => e = .returned (.tuple #[.string (fmtS p).1, .int .i64 (fmtS p).2]) ∧ Same w w' := by
  have HD := Lib.hid (decibels_any p w ht.dec)
  by_cases h : Ok p
  · rw [show fmtS p = _ from if_pos h]
    rw [show dcbS p = _ from if_pos h] at HD
    have hle := dcb_le p
    have HI := Lib.hid (fun (w1 : World) (h1 : Same w w1) => itoa_any (dcb p) hle w1 (ht.same h1))
    have hns := num_size (dcb p)
    clear ht h hle
    generalize dcb p = d at *
    generalize num d = nd at *
    go_enter Tryd.func27, Tryd.ntmps27
    go_wp2_with (first | (go_at_call 14; with_reducible refine HD.out.mono ?_; rintro e w1 ⟨rfl, h⟩; have H := Lib.hid h; clear h) | (go_at_call 41; with_reducible refine (HI.out _ (by exact H.out)).mono ?_; rintro e w2 ⟨rfl, h2⟩; have H2 := Lib.hid (H.out.trans h2); clear h2))
    go_ret2
    exact ⟨ret_se rfl, H2.out⟩
  · rw [show fmtS p = _ from if_neg h]
    rw [show dcbS p = _ from if_neg h] at HD
    clear ht h
    go_enter Tryd.func27, Tryd.ntmps27
    go_wp2_with (go_at_call 14; with_reducible refine HD.out.mono ?_; rintro e w1 ⟨rfl, h⟩; have H := Lib.hid h; clear h)
    go_ret2
    exact ⟨rfl, H.out⟩
theorem enc_dig : ∀ i : Nat, i < 10 → Utf8.encode (48 + (i : Int)) = ⟨#[UInt8.ofNat (48 + i)]⟩ := by decide +kernel
theorem enc (n : Nat) (x : Int) (h : x = (n : Int)) : ∃ c : UInt8, Utf8.encode (48 + x % 10) = ⟨#[c]⟩ ∧ Hid (c = UInt8.ofNat (48 + n % 10)) := by
  subst h
  exact ⟨_, enc_dig (n % 10) (Nat.mod_lt n (by decide)), Lib.hid rfl⟩
set_option maxRecDepth 100000 in
theorem decimal2_1 (d : Nat) (h : d < 10) (w : World) : Calls Tryd.prog 42 #[.int .i64 (d : Int)] w fun e w' => e = .returned (.string (num d)) ∧ w' = w := by
  obtain ⟨c1, e1, q1⟩ := enc d d rfl
  go_enter Tryd.func42, Tryd.ntmps42
  go_wp2
  clear e1
  refine wp_loop_rounds 1 ?_
  rw [rounds_succ]
  go_wp2
  go_ret
  refine ⟨?_, rfl⟩
  unfold num; rw [if_pos h, q1.out, Nat.mod_eq_of_lt h]; rfl
set_option maxRecDepth 100000 in
theorem decimal2_2 (d : Nat) (h : d < 100) (h1 : 10 ≤ d) (w : World) : Calls Tryd.prog 42 #[.int .i64 (d : Int)] w fun e w' => e = .returned (.string (num d)) ∧ w' = w := by
  obtain ⟨c1, e1, q1⟩ := enc d d rfl
  obtain ⟨c2, e2, q2⟩ := enc (d / 10) ((d : Int) / 10) (by omega)
  have i1 : (10 : Int) ≤ (d : Int) := by omega
  have i2 : ¬ (10 : Int) ≤ (d : Int) / 10 := by omega
  go_enter Tryd.func42, Tryd.ntmps42
  go_wp2
  clear e1
  refine wp_loop_rounds 2 ?_
  rw [rounds_succ]
  go_wp2
  clear e2
  rw [rounds_succ]
  go_wp2
  go_ret
  refine ⟨?_, rfl⟩
  unfold num; rw [if_neg (by omega), if_pos h, q1.out, q2.out, Nat.mod_eq_of_lt (show d / 10 < 10 by omega)]; rfl
set_option maxRecDepth 100000 in
theorem decimal2_3 (d : Nat) (h : d < 1000) (h1 : 100 ≤ d) (w : World) : Calls Tryd.prog 42 #[.int .i64 (d : Int)] w fun e w' => e = .returned (.string (num d)) ∧ w' = w := by
  obtain ⟨c1, e1, q1⟩ := enc d d rfl
  obtain ⟨c2, e2, q2⟩ := enc (d / 10) ((d : Int) / 10) (by omega)
  obtain ⟨c3, e3, q3⟩ := enc (d / 10 / 10) ((d : Int) / 10 / 10) (by omega)
  have i1 : (10 : Int) ≤ (d : Int) := by omega
  have i2 : (10 : Int) ≤ (d : Int) / 10 := by omega
  have i3 : ¬ (10 : Int) ≤ (d : Int) / 10 / 10 := by omega
  go_enter Tryd.func42, Tryd.ntmps42
  go_wp2
  clear e1
  refine wp_loop_rounds 3 ?_
  have E3 := Lib.hid e3; clear e3
  rw [rounds_succ]
  go_wp2
  clear e2
  have e3 := E3.out
  rw [rounds_succ]
  go_wp2
  clear e3 E3
  rw [rounds_succ]
  go_wp2
  go_ret
  refine ⟨?_, rfl⟩
  unfold num; rw [if_neg (by omega), if_neg (by omega), q1.out, q2.out, q3.out, Nat.mod_eq_of_lt (show d / 10 / 10 < 10 by omega)]; rfl
theorem decimal2_any (d : Nat) (h : d ≤ 108) (w : World) : Calls Tryd.prog 42 #[.int .i64 (d : Int)] w fun e w' => e = .returned (.string (num d)) ∧ w' = w := by
  by_cases h1 : d < 10
  · exact decimal2_1 d h1 w
  · by_cases h2 : d < 100
    · exact decimal2_2 d h2 (by omega) w
    · exact decimal2_3 d (by omega) (by omega) w
theorem format2_any (p : Int) (w : World) : Calls Tryd.prog 28 #[.int .i64 p] w fun e w' => e = .returned (.tuple #[.string (fmtS p).1, .int .i64 (fmtS p).2]) ∧ Same w w' := by
  have HD := Lib.hid (decibels2_any p w)
  by_cases h : Ok p
  · rw [show fmtS p = _ from if_pos h]
    rw [show dcbS p = _ from if_pos h] at HD
    have hle := dcb_le p
    have HI := Lib.hid (fun (w1 : World) => decimal2_any (dcb p) hle w1)
    have hns := num_size (dcb p)
    clear h hle
    generalize dcb p = d at *
    generalize num d = nd at *
    go_enter Tryd.func28, Tryd.ntmps28
    go_wp2_with (first | (go_at_call 15; with_reducible refine HD.out.mono ?_; rintro e w1 ⟨rfl, h⟩; have H := Lib.hid h; clear h) | (go_at_call 42; with_reducible refine (HI.out _).mono ?_; rintro e w2 ⟨rfl, rfl⟩))
    go_ret2
    exact ⟨ret_se rfl, H.out⟩
  · rw [show fmtS p = _ from if_neg h]
    rw [show dcbS p = _ from if_neg h] at HD
    clear h
    go_enter Tryd.func28, Tryd.ntmps28
    go_wp2_with (go_at_call 15; with_reducible refine HD.out.mono ?_; rintro e w1 ⟨rfl, h⟩; have H := Lib.hid h; clear h)
    go_ret2
    exact ⟨rfl, H.out⟩
end Go.Proofs.YtjgbbafmjdapdaaDoor

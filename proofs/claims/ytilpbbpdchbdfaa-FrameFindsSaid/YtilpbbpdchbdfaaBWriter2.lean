
/- The writer's calls on flags, texts and bytes; Width. -/
import Derived.Test.YtilpbbpdchbdfaaBWriter
import Derived.Test.YtilpbbpdchbdfaaShelf
import Derived.Lib.BitFns
import Derived.Laws.BytesArg
namespace Go.Proofs.Ytilpbbpdchbdfaa.Bit
open Go.RowKit

/-- The least width. -/
def wid (m : Int) : Nat := if m < 0 then 0 else max 1 (Lib.bitLen m.toNat)

theorem bitLen_spec : ∀ (f x : Nat), x < 2 ^ f → x < 2 ^ Lib.bitLenAux f x ∧ (x ≠ 0 → 2 ^ (Lib.bitLenAux f x - 1) ≤ x)
  | 0, x, h => by simp at h; subst h; simp [Lib.bitLenAux]
  | f + 1, x, h => by
    have ih := bitLen_spec f (x / 2) (by rw [Nat.pow_succ] at h; omega)
    simp only [Lib.bitLenAux]
    by_cases h0 : x = 0
    · subst h0; simp
    · rw [if_neg h0, Nat.add_comm 1]
      refine ⟨by rw [Nat.pow_succ]; omega, fun _ => ?_⟩
      by_cases h1 : x / 2 = 0
      · have : x = 1 := by omega
        subst this
        cases f <;> simp [Lib.bitLenAux]
      · have := ih.2 h1
        have hp : Lib.bitLenAux f (x / 2) ≠ 0 := by
          intro e; rw [e] at ih; simp at ih; omega
        rw [show Lib.bitLenAux f (x / 2) + 1 - 1 = (Lib.bitLenAux f (x / 2) - 1) + 1 by omega, Nat.pow_succ]; omega

theorem wid_spec (m : Int) (h0 : 0 ≤ m) (h1 : m ≤ 9223372036854775807) : 1 ≤ wid m ∧ wid m ≤ 63 ∧ m < 2 ^ wid m ∧ (wid m = 1 → m ≤ 1) ∧ (wid m ≠ 1 → 2 ^ (wid m - 1) ≤ m) := by
  obtain ⟨n, rfl⟩ := Int.eq_ofNat_of_zero_le h0
  unfold wid
  rw [if_neg (by omega), Int.toNat_natCast]
  have hn : n < 2 ^ 63 := by omega
  have hb := bitLen_spec 64 n (by omega)
  have hl := Lib.bitLen_le n 63 (by omega) hn
  change n < 2 ^ Lib.bitLen n ∧ (n ≠ 0 → 2 ^ (Lib.bitLen n - 1) ≤ n) at hb
  have hz0 : n = 0 → Lib.bitLen n = 0 := by rintro rfl; rfl
  generalize Lib.bitLen n = k at *
  have hz : k = 0 → n = 0 := by intro e; subst e; simpa using hb.1
  have hcast : ∀ j : Nat, ((2 : Int) ^ j) = ((2 ^ j : Nat) : Int) := by intro j; simp
  have hpos : n ≠ 0 → k ≠ 0 := fun h e => h (hz e)
  refine ⟨by omega, by omega, ?_, ?_, ?_⟩
  · rw [hcast]
    by_cases hk : k = 0
    · have := hz hk; subst this; have hp : 0 < 2 ^ max 1 k := Nat.pow_pos (by omega)
      omega
    · rw [show max 1 k = k by omega]; omega
  · intro e
    have : k ≤ 1 := by omega
    rcases (show k = 0 ∨ k = 1 by omega) with rfl | rfl
    · have := hz rfl; omega
    · have := hb.1; simp at this; omega
  · intro e
    have hk : 2 ≤ k := by omega
    rw [show max 1 k = k by omega, hcast]
    have := hb.2 (by intro e; have := hz0 e; omega)
    omega

theorem wid_text (m : Int) (h0 : 1 ≤ m) (h1 : m ≤ 4095) : 1 ≤ wid m ∧ wid m ≤ 12 ∧ m < 2 ^ wid m := by
  have h := wid_spec m (by omega) (by omega)
  refine ⟨h.1, ?_, h.2.2.1⟩
  unfold wid
  rw [if_neg (by omega)]
  have := Lib.bitLen_le m.toNat 12 (by omega) (by omega)
  omega

theorem width_any (w : World) (m : Int) (h1 : m ≤ 9223372036854775807) :
    Calls Try.prog 97 #[.int .i64 m] w fun e w' => e = .returned (.int .i64 (wid m)) ∧ w = w' := by
  by_cases hm : m < 0
  · have e : wid m = 0 := by unfold wid; rw [if_pos hm]
    rw [e]
    go_enter Try.func97, Try.ntmps97
    go_wp2
    go_ret
    exact ⟨rfl, rfl⟩
  · have e : (wid m : Int) = max 1 (Lib.bitLen m.toNat : Int) := by unfold wid; rw [if_neg hm]; omega
    have HE := Lib.hid e; clear e
    go_enter Try.func97, Try.ntmps97
    go_wp2_with (go_at_call 114; refine (Try.bits_Len m _ (by omega) (by omega)).mono ?_; rintro e w' ⟨rfl, rfl⟩)
    go_ret
    exact ⟨by rw [HE.out]; rfl, rfl⟩

def textBits (l : List UInt8) : List Nat := l.flatMap fun c => enc 8 c.toNat
theorem textBits_length (l : List UInt8) : (textBits l).length = 8 * l.length := by
  induction l with
  | nil => rfl
  | cons c l ih => simp only [textBits, List.flatMap_cons, List.length_append, enc_length, List.length_cons] at *; omega
theorem textBits_snoc (s : ByteArray) (k : Nat) (h : k < s.size) : textBits (s.data.toList.take (k + 1)) = textBits (s.data.toList.take k) ++ enc 8 (s[k].toNat : Int) := by
  rw [List.take_succ_eq_append_getElem (by simpa using h)]
  unfold textBits
  rw [List.flatMap_append]
  simp only [List.flatMap_cons, List.flatMap_nil, List.append_nil]
  rfl
theorem textBits_le (s : ByteArray) (k : Nat) (h : k ≤ s.size) : (textBits (s.data.toList.take k)).length = 8 * k := by
  rw [textBits_length, List.length_take]
  have : s.data.toList.length = s.size := by rw [Array.length_toList]; rfl
  omega

theorem data_len (s : ByteArray) : s.data.toList.length = s.size := by rw [Array.length_toList]; rfl

def DivAt (w : World) (a : Nat) (d : Option Nat) (bs : List Nat) (s : ByteArray) (i : Value) (wr : World) : Prop :=
  ∃ k : Nat, k ≤ s.size ∧ i = .int .i64 k ∧ WrGrew w a d (bs ++ textBits (s.data.toList.take k)) wr

theorem divide_any (w : World) (a : Nat) (bs : List Nat) (d : Option Nat) (h : WrOk w a bs d) (s : ByteArray) (hroom : bs.length + 8 * s.size ≤ 524288) :
    Calls Try.prog 100 #[.string s, .func (Fn.func 99) #[.pointer (some ⟨a, 0, none⟩)] #[]] w fun e w' => e = .returned (.tuple #[]) ∧ WrGrew w a d (bs ++ textBits s.data.toList) w' := by
  have H := Lib.hid h; clear h
  go_enter Try.func100, Try.ntmps100
  go_wp2
  go_loopw [7] (fun i wr => DivAt w a d bs s i wr) (fun i wr => s.size - (intOf i).toNat)
  case atStart => exact ⟨0, Nat.zero_le _, rfl, d, (by rw [List.take_zero]; show WrOk w a (bs ++ []) d; rw [List.append_nil]; exact H.out), Keeps.refl _ _, fun g hg => Or.inl hg⟩
  case round =>
    obtain ⟨k, hk, rfl, d1, hw, hk1, hd1⟩ := hrel
    by_cases hlt : k < s.size
    · have hsn := textBits_snoc s k hlt
      have hl := textBits_le s k (by omega)
      have hl2 : (bs ++ textBits (s.data.toList.take k)).length + 8 ≤ 524288 := by rw [List.length_append, hl]; omega
      have HS := Lib.hid hsn; clear hsn
      have HW := Lib.hid hw; clear hw
      have HK := Lib.hid hk1; clear hk1
      have HD := Lib.hid hd1; clear hd1
      have HL := Lib.hid hl2; clear hl2 hl
      go_wp2_with (go_at_call 99; refine (put_any _ a _ d1 HW.out 8 _ (by omega) HL.out).mono ?_; rintro e w' ⟨rfl, hf⟩)
      go_roundw
      case rel =>
        refine ⟨k + 1, by omega, by go_num, ?_⟩
        rw [HS.out, ← List.append_assoc]
        rw [IntWalk.wrap64_in _ (by have := s[k].toNat_lt; omega)] at hf
        exact WrGrew.step HK.out HD.out hf
      case measure => simp [intOf]; omega
    · have hkn : s.data.toList.take k = s.data.toList := List.take_of_length_le (by rw [data_len]; omega)
      have HKN := Lib.hid hkn; clear hkn
      have HW := Lib.hid hw; clear hw
      have HK := Lib.hid hk1; clear hk1
      have HD := Lib.hid hd1; clear hd1
      go_wp2
      go_end0
      have hw := HW.out
      rw [HKN.out] at hw
      exact ⟨rfl, d1, hw, HK.out, HD.out⟩

/-- A text. -/
theorem text_bad (w : World) (a k : Nat) (er : Int) (h : WrBad w a k er) (her : (er != 0) = true) (most : Int) (hm : most ≤ 9223372036854775807) (s : ByteArray) :
    Calls Try.prog 67 #[.pointer (some ⟨a, 0, none⟩), .int .i64 most, .string s] w fun e w' => e = .returned (.tuple #[]) ∧ WrSame w w' := by
  obtain ⟨k0, k1, k2, f0, f1, f2⟩ := block3_cell h
  clear h
  go_enter Try.func67, Try.ntmps67
  go_wp2_with (go_at_call 97; refine (width_any _ most hm).mono ?_; rintro e w' ⟨rfl, rfl⟩)
  go_end0
  exact ⟨rfl, Keeps.refl _ _⟩
theorem text_arg (w : World) (a : Nat) (bs : List Nat) (d : Option Nat) (h : WrOk w a bs d) (most : Int) (hm : most ≤ 9223372036854775807) (s : ByteArray) (hw : most < 1 ∨ 4095 < most) :
    Calls Try.prog 67 #[.pointer (some ⟨a, 0, none⟩), .int .i64 most, .string s] w fun e w' => e = .returned (.tuple #[]) ∧ WrFell w a bs.length 1 w' := by
  obtain ⟨_, v, h1, _⟩ := h
  obtain ⟨k0, k1, k2, f0, f1, f2⟩ := block3_cell h1
  have H1 := Lib.hid h1; clear h1
  rcases hw with hw | hw
  all_goals
    go_enter Try.func67, Try.ntmps67
    go_wp2_with (first | (go_at_call 97; refine (width_any _ most hm).mono ?_; rintro e w' ⟨rfl, rfl⟩) | (go_at_call 98; refine (fail_any _ a v bs.length 0 1 H1.out).mono ?_; rintro e w' ⟨rfl, hf⟩))
    go_end0
    exact ⟨rfl, hf⟩
theorem text_large (w : World) (a : Nat) (bs : List Nat) (d : Option Nat) (h : WrOk w a bs d) (most : Int) (h1m : 1 ≤ most) (h2m : most ≤ 4095) (s : ByteArray) (hss : s.size ≤ 9223372036854775807) (hw : most < s.size ∨ ((s.size : Int) ≤ most ∧ 524288 < bs.length + wid most + 8 * s.size)) (hlen : bs.length ≤ 524288) :
    Calls Try.prog 67 #[.pointer (some ⟨a, 0, none⟩), .int .i64 most, .string s] w fun e w' => e = .returned (.tuple #[]) ∧ WrFell w a bs.length 8 w' := by
  obtain ⟨_, v, h1, _⟩ := h
  obtain ⟨k0, k1, k2, f0, f1, f2⟩ := block3_cell h1
  have H1 := Lib.hid h1; clear h1
  obtain ⟨w1, w2, w3⟩ := wid_text most h1m h2m
  clear w3
  generalize hwd : wid most = wd at *
  have HWD := Lib.hid hwd; clear hwd
  have hwc : Calls Try.prog 97 #[.int .i64 most] w fun e w' => e = .returned (.int .i64 wd) ∧ w = w' := by have := width_any w most (by omega); rw [HWD.out] at this; exact this
  have HWC := Lib.hid hwc; clear hwc
  rcases hw with hw | ⟨hw, hw'⟩
  all_goals
    go_enter Try.func67, Try.ntmps67
    go_wp2_with (first | (go_at_call 97; refine (HWC.out).mono ?_; rintro e w' ⟨rfl, rfl⟩) | (go_at_call 98; refine (fail_any _ a v bs.length 0 8 H1.out).mono ?_; rintro e w' ⟨rfl, hf⟩))
    go_end0
    exact ⟨rfl, hf⟩
theorem text_ok (w : World) (a : Nat) (bs : List Nat) (d : Option Nat) (h : WrOk w a bs d) (most : Int) (h1m : 1 ≤ most) (h2m : most ≤ 4095) (s : ByteArray) (hw : (s.size : Int) ≤ most) (hroom : bs.length + wid most + 8 * s.size ≤ 524288) :
    Calls Try.prog 67 #[.pointer (some ⟨a, 0, none⟩), .int .i64 most, .string s] w fun e w' => e = .returned (.tuple #[]) ∧ WrGrew w a d (bs ++ enc (wid most) s.size ++ textBits s.data.toList) w' := by
  have H := Lib.hid h
  obtain ⟨_, v, h1, _⟩ := h
  obtain ⟨k0, k1, k2, f0, f1, f2⟩ := block3_cell h1
  clear h1
  obtain ⟨w1, w2, w3⟩ := wid_text most h1m h2m
  clear w3
  generalize hwd : wid most = wd at *
  have HWD := Lib.hid hwd; clear hwd
  have hwc : Calls Try.prog 97 #[.int .i64 most] w fun e w' => e = .returned (.int .i64 wd) ∧ w = w' := by have := width_any w most (by omega); rw [HWD.out] at this; exact this
  have HWC := Lib.hid hwc; clear hwc
  go_enter Try.func67, Try.ntmps67
  have hvar : ∀ w1 d1, WrOk w1 a (bs ++ enc wd s.size) d1 → Calls Try.prog 100 #[.string s, .func (Fn.func 99) #[.pointer (some ⟨a, 0, none⟩)] #[]] w1 fun e w' => e = .returned (.tuple #[]) ∧ WrGrew w1 a d1 (bs ++ enc wd s.size ++ textBits s.data.toList) w' :=
    fun w1 d1 h1 => divide_any w1 a _ d1 h1 s (by rw [List.length_append, enc_length]; omega)
  have HV := Lib.hid hvar; clear hvar
  go_wp2_with (first | (go_at_call 97; refine (HWC.out).mono ?_; rintro e w' ⟨rfl, rfl⟩) | (go_at_call 99; refine (put_any _ a bs d H.out wd s.size (by omega) (by omega)).mono ?_; rintro e w1 ⟨rfl, d1, hw1, hk1, hd1⟩; have HW1 := Lib.hid hw1; clear hw1; have HK1 := Lib.hid hk1; clear hk1; have HD1 := Lib.hid hd1; clear hd1) | (go_at_call 100; refine (HV.out _ _ HW1.out).mono ?_; rintro e w2 ⟨rfl, hg⟩))
  go_end0
  exact ⟨rfl, WrGrew.step HK1.out HD1.out hg⟩

theorem bitsW_any (w : World) (a k : Nat) (v : Value) (er : Int) (h : w.heap[a]? = some (.cells #[v, .int .i64 k, .int .i64 er] 105 (0, 0))) :
    Calls Try.prog 70 #[.pointer (some ⟨a, 0, none⟩)] w fun e w' => e = .returned (.int .i64 k) ∧ w = w' := by
  obtain ⟨k0, k1, k2, f0, f1, f2⟩ := block3_cell h
  clear h
  go_enter Try.func70, Try.ntmps70
  go_wp2
  go_ret
  exact ⟨rfl, rfl⟩
theorem newWriter_any (w : World) : Calls Try.prog 61 #[] w fun e w' => e = .returned (.pointer (some ⟨w.heap.size, 0, none⟩)) ∧ w' = w.alloc (.cells #[.slice none 0 0, .int .i64 0, .int .i64 0] 105) := by
  go_enter Try.func61, Try.ntmps61
  go_wp2
  go_ret
  exact ⟨rfl, rfl⟩

def strB (l : List Nat) : ByteArray := ⟨(l.map UInt8.ofNat).toArray⟩
theorem strB_size (l : List Nat) : (strB l).size = l.length := by simp [strB, ByteArray.size]

set_option maxRecDepth 100000 in
theorem bytes_ok (w : World) (a : Nat) (bs : List Nat) (d : Option Nat) (h : WrOk w a bs d) :
    Calls Try.prog 69 #[.pointer (some ⟨a, 0, none⟩)] w fun e w' => e = .returned (.tuple #[.string (strB (pack bs)), .int .i64 0]) ∧ WrSame w w' := by
  obtain ⟨_, v, h1, h2, _⟩ := h
  obtain ⟨k0, k1, k2, f0, f1, f2⟩ := block3_cell h1
  have hconv : ∀ w' : World, w'.heap = w.heap → (convert 41 9 v).run Try.prog w' = .ok (.string (strB (pack bs))) w' := by
    intro w' hw'
    rcases h2.2 with ⟨rfl, hn⟩ | ⟨g, cap, cur, rfl, _, hg, hnc, hcm, hcs, htk⟩
    · have : pack bs = [] := List.eq_nil_of_length_eq_zero (by rw [pack_length]; exact hn)
      rw [run_convert_bytes_string w' 41 9 5 none 0 0 Try.underlying41 Try.underlying5 Try.underlying9, this]
      rfl
    · have hc := run_convert_bytes_arg (P := Try.prog) w' 41 5 Try.underlying41 Try.underlying5 g 0 (nby bs.length) cap ((pack bs).map Int.ofNat) (by simp [pack_length]) (by
        intro i hi
        rw [Nat.zero_add, World.cell?_of_block (w := w) (by rw [hw']), h2.cellAt i (by omega)]
        simp [u8s, pack_get _ _ hi]) 9 Try.underlying9
      rw [hc]
      congr 3
      simp [strOfNums, strB]
  have hc1 := hconv w rfl
  have hc2 := hconv w.drew rfl
  clear hconv h1 h2
  go_enter Try.func69, Try.ntmps69
  go_wp2
  go_region
  all_goals go_wp2
  all_goals go_ret2
  all_goals exact ⟨rfl, (Keeps.refl _ w).drew⟩
theorem bytes_bad (w : World) (a k : Nat) (er : Int) (h : WrBad w a k er) :
    Calls Try.prog 69 #[.pointer (some ⟨a, 0, none⟩)] w fun e w' => e = .returned (.tuple #[.string ⟨#[]⟩, .int .i64 er]) ∧ WrSame w w' := by
  obtain ⟨k0, k1, k2, f0, f1, f2⟩ := block3_cell h
  have hconv : ∀ w' : World, (convert 41 9 (.slice none 0 0)).run Try.prog w' = .ok (.string ⟨#[]⟩) w' := by
    intro w'
    rw [run_convert_bytes_string w' 41 9 5 none 0 0 Try.underlying41 Try.underlying5 Try.underlying9]
    rfl
  have hc1 := hconv w
  have hc2 := hconv w.drew
  clear hconv h
  go_enter Try.func69, Try.ntmps69
  go_wp2
  go_region
  all_goals go_wp2
  all_goals go_ret2
  all_goals exact ⟨rfl, (Keeps.refl _ w).drew⟩
end Go.Proofs.Ytilpbbpdchbdfaa.Bit

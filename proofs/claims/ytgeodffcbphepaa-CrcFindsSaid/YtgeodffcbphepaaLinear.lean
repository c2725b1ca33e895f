/- CrcLinear: for all strings the law returns true: the check sum of the exclusive or of two strings of one length is that of their sums. No condition on the input. -/
import Derived.Test.YtgeodffcbphepaaAwake
import Derived.ProofKit
import Derived.OpenShut
import Derived.Laws.IdiomStrings
import Derived.RegionTactic
namespace Go.Proofs.Ytgeodffcbphepaa
open Go.RowKit
open Crc

theorem bits_xor_u8 (a b : Nat) (ha : a < 256) (hb : b < 256) : bits .xor .u8 (a : Int) (b : Int) = ((a ^^^ b : Nat) : Int) := by
  have hx : a ^^^ b < 2 ^ 8 := Nat.xor_lt_two_pow (by omega) (by omega)
  have h1 : (BitVec.ofInt 8 (a : Int)).toNat = a := by
    rw [BitVec.ofInt_natCast, BitVec.toNat_ofNat]; exact Nat.mod_eq_of_lt (by omega)
  have h2 : (BitVec.ofInt 8 (b : Int)).toNat = b := by
    rw [BitVec.ofInt_natCast, BitVec.toNat_ofNat]; exact Nat.mod_eq_of_lt (by omega)
  show IntKind.u8.wrap ((BitVec.ofInt 8 (a : Int) ^^^ BitVec.ofInt 8 (b : Int)).toNat : Int) = _
  rw [BitVec.toNat_xor, h1, h2]
  exact IntWalk.u8_in _ (by omega)

/-- A row of the call's own in block g that holds the bytes l. -/
def Row (w : World) (g : Nat) (l : List UInt8) : Prop :=
  ∀ i, i < l.length → w.cell? ⟨g, i, none⟩ = some (.int .u8 ((l.getD i 0).toNat : Int)) ∧ w.frozen? ⟨g, i, none⟩ = false
theorem row_made (s : ByteArray) : ∃ (C : World → Nat) (F : World → World), (∀ w, (convert 9 35 (.string s)).run Try.prog w = .ok (.slice (some ⟨w.heap.size, 0, none⟩) s.size (C w)) (F w)) ∧ (∀ w, Row (F w) w.heap.size s.data.toList ∧ Same w (F w)) ∧ (∀ w, s.size ≤ C w) := by
  refine ⟨fun w => grownCap w s.size 0 5, _, fun w => run_bytes_of_string w 9 35 5 s Try.underlying9 Try.underlying35 Try.underlying5, fun w => ⟨?_, (Same.refl w).drew.alloc _⟩, fun w => grownCap_ge w s.size 0 5⟩
  intro i hi
  have hi' : i < s.size := by rw [Array.length_toList] at hi; exact hi
  have hb : (w.drew.alloc (.cells (bytesRow s (grownCap w s.size 0 5)) 5 ((bytesRow s (grownCap w s.size 0 5)).size, (bytesRow s (grownCap w s.size 0 5)).size + 1))).heap[w.heap.size]? = some (.cells (bytesRow s (grownCap w s.size 0 5)) 5 ((bytesRow s (grownCap w s.size 0 5)).size, (bytesRow s (grownCap w s.size 0 5)).size + 1)) := heap_alloc_new w.drew _
  have hsz : s.size ≤ (bytesRow s (grownCap w s.size 0 5)).size := by unfold bytesRow; simp
  constructor
  · rw [cell_of_row _ _ _ _ _ _ hb]
    unfold bytesRow
    have hi2 : i < s.data.size := hi'
    rw [Array.getElem?_append_left (by simpa using hi2)]
    simp [List.getD_eq_getElem?_getD, Array.getElem?_eq_getElem hi2]
  · unfold World.frozen?
    rw [hb]
    simp; omega
theorem Row.store {w : World} {g k : Nat} {l : List UInt8} (h : Row w g l) (hk : k < l.length) (b : UInt8) {n : Int} (hn : n = (b.toNat : Int)) : Row (w.setCell ⟨g, k, none⟩ (.int .u8 n)) g (l.set k b) := by
  subst hn
  intro i hi
  have hi' : i < l.length := by simpa using hi
  refine ⟨?_, by rw [World.frozen?_setCell]; exact (h i hi').2⟩
  by_cases e : k = i
  · subst e
    rw [World.cell?_setCell_same _ _ _ (h k hk).1]
    simp [List.getD_eq_getElem?_getD, hk]
  · rw [World.cell?_setCell_other _ _ _ _ (fun h' => e (congrArg Addr.off h'))]
    rw [(h i hi').1]
    simp [List.getD_eq_getElem?_getD, e]
theorem Row.same {w w' : World} {g : Nat} {l : List UInt8} (h : Row w g l) (hb : w'.heap[g]? = w.heap[g]?) : Row w' g l := fun i hi => by
  have := h i hi
  unfold World.cell? World.frozen? at *
  rw [hb]; exact this
/-- A row of bytes as a string. -/
theorem Row.conv {w : World} {g cap : Nat} {l : List UInt8} (h : Row w g l) : (convert 35 9 (.slice (some ⟨g, 0, none⟩) l.length cap)).run Try.prog w = .ok (.string ⟨l.toArray⟩) w := by
  have hc := run_convert_bytes_arg (P := Try.prog) w 35 5 Try.underlying35 Try.underlying5 g 0 l.length cap (l.map fun b => (b.toNat : Int)) (by simp) (fun i hi => by
    rw [Nat.zero_add, (h i hi).1]; simp [List.getD_eq_getElem?_getD, hi]) 9 Try.underlying9
  rw [hc]
  congr 3
  simp only [strOfNums, List.map_map]
  congr 2
  exact (List.map_congr_left (fun b _ => by simp)).trans (List.map_id l)

/-- The first k bytes of a with those of b added. -/
def mixed (a b : List UInt8) (k : Nat) : List UInt8 := List.zipWith (fun x y => x ^^^ y) (a.take k) (b.take k) ++ a.drop k
theorem mixed_zero (a b : List UInt8) : mixed a b 0 = a := by simp [mixed]
theorem mixed_length (a b : List UInt8) (h : b.length = a.length) (k : Nat) (hk : k ≤ a.length) : (mixed a b k).length = a.length := by unfold mixed; simp; omega
theorem mixed_all (a b : List UInt8) (h : b.length = a.length) : mixed a b a.length = List.zipWith (fun x y => x ^^^ y) a b := by
  unfold mixed; rw [List.take_of_length_le (Nat.le_refl _), List.take_of_length_le (by omega), List.drop_of_length_le (Nat.le_refl _), List.append_nil]
theorem mixed_at (a b : List UInt8) (h : b.length = a.length) (k : Nat) (hk : k < a.length) : (mixed a b k).getD k 0 = a.getD k 0 := by
  unfold mixed
  rw [List.getD_eq_getElem?_getD, List.getElem?_append_right (by simp; omega)]
  simp [List.getD_eq_getElem?_getD, h, Nat.min_eq_left (Nat.le_of_lt hk)]
theorem mixed_next (a b : List UInt8) (h : b.length = a.length) (k : Nat) (hk : k < a.length) : (mixed a b k).set k (a.getD k 0 ^^^ b.getD k 0) = mixed a b (k + 1) := by
  unfold mixed
  have hz : (List.zipWith (fun x y => x ^^^ y) (a.take k) (b.take k)).length = k := by simp; omega
  rw [List.set_append_right _ _ (by omega), hz, Nat.sub_self, List.drop_eq_getElem_cons hk, List.set_cons_zero,
    List.take_succ_eq_append_getElem hk, List.take_succ_eq_append_getElem (by omega), List.zipWith_append (by simp; omega)]
  simp [List.getD_eq_getElem?_getD, hk, h]
namespace crcLinear
set_option maxHeartbeats 1600000 in
theorem main (a b : ByteArray) (ha : a.size ≤ 300) (hb : b.size = a.size) (w : World) :
    Calls Try.prog 6 #[.string a, .string b] w fun e w' => e = .returned (.bool true) ∧ Same w w' := by
  obtain ⟨C, F, hrun, hrow, hcap⟩ := row_made a
  have hla : a.data.toList.length = a.size := by rw [Array.length_toList]; rfl
  have hlb : b.data.toList.length = a.data.toList.length := by rw [hla, Array.length_toList]; exact hb
  have HROW := Lib.hid hrow; clear hrow
  have HLB := Lib.hid hlb
  have HLA := Lib.hid hla
  have hul := U_lt (s := 0) (by decide) a.data.toList
  have hub := U_lt (s := 0) (by decide) b.data.toList
  have hx := U_xor 0 0 a.data.toList b.data.toList hlb.symm
  rw [Nat.xor_self] at hx
  have c1 := fun w => sum_any ⟨(mixed a.data.toList b.data.toList a.size).toArray⟩ (by unfold maxLen; show List.length _ ≤ _; rw [← hla, mixed_length _ _ hlb _ (Nat.le_refl _)]; omega) w
  have e1 : U 0 (⟨(mixed a.data.toList b.data.toList a.size).toArray⟩ : ByteArray).data.toList = U 0 a.data.toList ^^^ U 0 b.data.toList := by
    show U 0 (mixed _ _ a.size) = _
    rw [← hla, mixed_all _ _ hlb, hx]
  rw [e1] at c1
  have c2 := fun w => sum_any a (by unfold maxLen; omega) w
  have c3 := fun w => sum_any b (by unfold maxLen; omega) w
  have hbx := bits_xor_u16 _ _ hul hub
  generalize U 0 a.data.toList = ua at *
  generalize U 0 b.data.toList = ub at *
  rw [← hbx] at c1
  have C1 := Lib.hid c1; clear c1
  have C2 := Lib.hid c2; clear c2
  have C3 := Lib.hid c3; clear c3
  have hbb : ((b.size : Int) != (a.size : Int)) = false := by rw [hb]; simp
  have HB := Lib.hid hb
  clear hx e1 hbx hul hub hla hlb hb
  go_enter Try.func6, Try.ntmps6
  go_wp2_with (go_at_call 11; refine (awake_any _).mono ?_; rintro e w1 ⟨rfl, h⟩; have H := Lib.hid h; clear h)
  clear hrun
  have hst := HROW.out w1
  have hsize : w.heap.size ≤ w1.heap.size := H.out.size
  have H1 := Lib.hid (H.out.trans hst.2)
  have HST := Lib.hid hst.1
  clear hst
  generalize F w1 = w2 at *
  generalize C w1 = cap at *
  go_loopw [23] (fun i wr => ∃ k : Nat, k ≤ a.size ∧ i = .int .i64 k ∧ Row wr w1.heap.size (mixed a.data.toList b.data.toList k) ∧ Same w wr) (fun i _ => a.size - (intOf i).toNat)
  case atStart => exact ⟨0, Nat.zero_le _, rfl, by rw [mixed_zero]; exact HST.out, H1.out⟩
  case round =>
    obtain ⟨k, hk, rfl, hrow, hsm⟩ := hrel
    have HSM := Lib.hid hsm; clear hsm
    by_cases hlt : k < a.size
    · have hkl : k < (mixed a.data.toList b.data.toList k).length := by rw [mixed_length _ _ HLB.out _ (by rw [HLA.out]; omega), HLA.out]; exact hlt
      obtain ⟨hc, hf⟩ := hrow k hkl
      rw [mixed_at _ _ HLB.out k (by rw [HLA.out]; exact hlt)] at hc
      have hltb : k < b.size := by rw [HB.out]; exact hlt
      have hki : (k : Int) < (a.size : Int) := by omega
      have hkb : (k : Int) < (b.size : Int) := by omega
      have HROW2 := Lib.hid hrow; clear hrow
      have hka : a.data.toList.getD k 0 = a[k] := by
        rw [List.getD_eq_getElem?_getD, List.getElem?_eq_getElem (by rw [HLA.out]; exact hlt)]; rfl
      have hkbv : b.data.toList.getD k 0 = b[k] := by
        rw [List.getD_eq_getElem?_getD, List.getElem?_eq_getElem (by rw [HLB.out, HLA.out]; exact hlt)]; rfl
      rw [hka] at hc
      have HKA := Lib.hid hka; clear hka
      have HKB := Lib.hid hkbv; clear hkbv
      have HKL := Lib.hid hkl; clear hkl
      go_wp2
      go_region
      all_goals go_wp2
      go_roundw
      case rel =>
        refine ⟨k + 1, by omega, by go_num, ?_, (HSM.out.setCell hsize _).drew⟩
        have hv : bits .xor .u8 (a[k].toNat : Int) (b[k].toNat : Int) = ((a[k] ^^^ b[k]).toNat : Int) := by
          rw [bits_xor_u8 _ _ a[k].toNat_lt b[k].toNat_lt, UInt8.toNat_xor]
        have hst := HROW2.out.store HKL.out (a[k] ^^^ b[k]) hv
        have hn := mixed_next a.data.toList b.data.toList HLB.out k (by rw [HLA.out]; exact hlt)
        rw [HKA.out, HKB.out] at hn
        rw [hn] at hst
        exact hst.same rfl
      case measure => simp [intOf]; omega
    · obtain rfl : k = a.size := by omega
      have hconv := Row.conv (cap := cap) hrow
      rw [mixed_length _ _ HLB.out _ (by rw [HLA.out]; omega), HLA.out] at hconv
      clear hrow
      go_wp2_with (first
        | (go_at_call 12; with_reducible refine (C1.out _).mono ?_; rintro e w3 ⟨rfl, h⟩; have HS2 := Lib.hid (HSM.out.trans h); clear h HSM; have HSM := HS2; clear HS2)
        | (go_at_call 12; with_reducible refine (C2.out _).mono ?_; rintro e w3 ⟨rfl, h⟩; have HS2 := Lib.hid (HSM.out.trans h); clear h HSM; have HSM := HS2; clear HS2)
        | (go_at_call 12; with_reducible refine (C3.out _).mono ?_; rintro e w3 ⟨rfl, h⟩; have HS2 := Lib.hid (HSM.out.trans h); clear h HSM; have HSM := HS2; clear HS2))
      go_ret
      exact ⟨rfl, HSM.out⟩
theorem walk (a : ByteArray) (ha : a.size ≤ maxLen) (b : ByteArray) (_hb : b.size ≤ maxLen) (w : World) :
    Calls Try.prog 6 #[.string a, .string b] w fun e w' => e = .returned (.bool true) ∧ Same w w' := by
  by_cases h1 : a.size ≤ 300
  · by_cases h2 : b.size = a.size
    · exact main a b h1 h2 w
    · have hne : ((b.size : Int) != (a.size : Int)) = true := by simp; omega
      clear h2
      unfold maxLen at ha
      go_enter Try.func6, Try.ntmps6
      go_wp2_with (go_at_call 11; refine (awake_any _).mono ?_; rintro e w1 ⟨rfl, h⟩; have H := Lib.hid h; clear h)
      go_ret
      exact ⟨rfl, H.out⟩
  · unfold maxLen at ha
    go_enter Try.func6, Try.ntmps6
    go_wp2_with (go_at_call 11; refine (awake_any _).mono ?_; rintro e w1 ⟨rfl, h⟩; have H := Lib.hid h; clear h)
    go_ret
    exact ⟨rfl, H.out⟩
open Go.ChangeShapes Go.WideShapes Go.ChangeAt
open Go.ChangeMaps (shut_string open_string)
theorem own : ownKnob Try.prog.godebug = none := by kernel_rfl

set_option maxRecDepth 100000 in
theorem lifted (os : Os) (started : os.Started) (H : Type) (enc : TypeId × Value → H) :
    ReturnsInHanded {} Try.checked os 6 .any (Rows.crcLinearSpec.pre6 enc Try.prog Try.f6 Rows.crcLinearRow.domain false) (Rows.crcLinearSpec.post enc Try.prog Try.f6 false true false false) := by
  refine returnsInHanded_of_change (C := Try.checked) own started (by kernel_rfl) Try.func6
    (ChangeSpec.witness6 (enc := enc) (C := Try.checked) false ⟨#[], #[.string ⟨#[]⟩, .string ⟨#[]⟩], []⟩ 8 (by kernel_rfl) (by kernel_rfl) (by kernel_rfl) (by kernel_rfl)) ?_
  intro W base args ds gs before hval0 hW hcnd _
  have hval : ∀ (j : Nat) t v, Try.f6.params[j]? = some t → args[j]? = some v → Value.okWide Try.prog W .any base t v := hval0
  have hW' := hW
  obtain ⟨p, q, hA0, hV, rfl, hfz, hnd⟩ := hW
  have hA : DataW.TrodAll enc Try.prog W 0 (fun _ => true) true Try.f6.params.toList args.toList ds p := hA0
  rw [Try.params6] at hA hval
  obtain ⟨v0, vs0, d0, ds0, p0, q0, hargs, rfl, rfl, h0, r0⟩ := trodAll_cons hA
  obtain ⟨v1, vs1, d1, ds1, p1, q1, rfl, rfl, rfl, h1, r1⟩ := trodAll_cons r0
  obtain ⟨rfl, rfl, rfl⟩ := trodAll_nil r1
  obtain rfl : args = #[v0, v1] := by cases args; simp_all
  obtain ⟨rfl, rfl⟩ := trodVars_none hV
  obtain ⟨a0, rfl, rfl, rfl, w0⟩ := open_string Try.underlying9 (hval 0 9 v0 rfl rfl) h0
  obtain ⟨a1, rfl, rfl, rfl, w1⟩ := open_string Try.underlying9 (hval 1 9 v1 rfl rfl) h1
  clear hA0 hval0
  try simp only [List.append_nil] at hW'
  try simp only [List.nil_append] at hW'
  refine (walk a0 w0 a1 w1 W).mono fun e W' ⟨he, hg⟩ => ?_
  subst he
  exact ⟨_, rfl, _, _, _, [], _, [], hW', trodAll_cons_mk (shut_bool Try.underlying4 _) trodAll_mk0, trodAll_cons_mk (shut_string Try.underlying9 w0) (trodAll_cons_mk (shut_string Try.underlying9 w1) trodAll_mk0), rfl, (Same.toBelow hg).frame _, fun h => by cases h⟩

theorem over : Rows.crcLinearRow.holds Try.pinned (OpenSpec.ofChange Rows.crcLinearSpec) :=
  OpenClaim.holds_of_wide 6 Try.f6 rfl rfl rfl rfl rfl rfl rfl ⟨rfl, rfl, rfl, rfl, rfl⟩ rfl rfl rfl rfl rfl (by kernel_rfl) Try.func6 (by kernel_rfl)
    (of_decide_eq_true (by kernel_rfl)) (by unfold Func.isWrapper; first | (rw [if_pos (by decide +kernel)]; kernel_rfl) | (rw [if_neg (by decide +kernel)]; exact ⟨rfl, rfl⟩))
    (fun os started H enc _ => lifted os started H enc)

theorem proved : Rows.CrcLinearSaid :=
  over
end crcLinear
end Go.Proofs.Ytgeodffcbphepaa

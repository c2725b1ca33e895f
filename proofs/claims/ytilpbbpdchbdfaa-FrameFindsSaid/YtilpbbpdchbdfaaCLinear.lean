
/- CrcLinear: for all strings the law returns true: the check sum of the exclusive or of two strings of one length is that of their sums. No condition on the input. -/
import Derived.Test.YtilpbbpdchbdfaaCAwake
import Derived.ProofKit
import Derived.OpenShut
import Derived.Laws.IdiomStrings
import Derived.RegionTactic
namespace Go.Proofs.Ytilpbbpdchbdfaa.Cr
open Go.RowKit
set_option maxRecDepth 100000
open Crc

theorem bits_xor_u8 (a b : Nat) (ha : a < 256) (hb : b < 256) : bits .xor .u8 (a : Int) (b : Int) = ((a ^^^ b : Nat) : Int) := by
  have hx : a ^^^ b < 2 ^ 8 := Nat.xor_lt_two_pow (by omega) (by omega)
  have h1 : (BitVec.ofInt 8 (a : Int)).toNat = a := by
    rw [BitVec.ofInt_natCast, BitVec.toNat_ofNat]; exact Nat.mod_eq_of_lt (by omega)
  have h2 : (BitVec.ofInt 8 (b : Int)).toNat = b := by
    rw [BitVec.ofInt_natCast, BitVec.toNat_ofNat]; exact Nat.mod_eq_of_lt (by omega)
  show IntKind.u8.wrap ((BitVec.ofInt 8 (a : Int) ^^^ BitVec.ofInt 8 (b : Int)).toNat : Int) = _
  rw [BitVec.toNat_xor, h1, h2]
  exact IntWalk.u8_in _ (by omega)

/-- A row of the call's own in block g that holds the bytes l. -/
def Row (w : World) (g : Nat) (l : List UInt8) : Prop :=
  ∀ i, i < l.length → w.cell? ⟨g, i, none⟩ = some (.int .u8 ((l.getD i 0).toNat : Int)) ∧ w.frozen? ⟨g, i, none⟩ = false
theorem row_made (s : ByteArray) : ∃ (C : World → Nat) (F : World → World), (∀ w, (convert 9 41 (.string s)).run Try.prog w = .ok (.slice (some ⟨w.heap.size, 0, none⟩) s.size (C w)) (F w)) ∧ (∀ w, Row (F w) w.heap.size s.data.toList ∧ Same w (F w)) ∧ (∀ w, s.size ≤ C w) := by
  refine ⟨fun w => grownCap w s.size 0 5, _, fun w => run_bytes_of_string w 9 41 5 s Try.underlying9 Try.underlying41 Try.underlying5, fun w => ⟨?_, (Same.refl w).drew.alloc _⟩, fun w => grownCap_ge w s.size 0 5⟩
  intro i hi
  have hi' : i < s.size := by rw [Array.length_toList] at hi; exact hi
  have hb : (w.drew.alloc (.cells (bytesRow s (grownCap w s.size 0 5)) 5 ((bytesRow s (grownCap w s.size 0 5)).size, (bytesRow s (grownCap w s.size 0 5)).size + 1))).heap[w.heap.size]? = some (.cells (bytesRow s (grownCap w s.size 0 5)) 5 ((bytesRow s (grownCap w s.size 0 5)).size, (bytesRow s (grownCap w s.size 0 5)).size + 1)) := heap_alloc_new w.drew _
  have hsz : s.size ≤ (bytesRow s (grownCap w s.size 0 5)).size := by unfold bytesRow; simp
  constructor
  · rw [cell_of_row _ _ _ _ _ _ hb]
    unfold bytesRow
    have hi2 : i < s.data.size := hi'
    rw [Array.getElem?_append_left (by simpa using hi2)]
    simp [List.getD_eq_getElem?_getD, Array.getElem?_eq_getElem hi2]
  · unfold World.frozen?
    rw [hb]
    simp; omega
theorem Row.store {w : World} {g k : Nat} {l : List UInt8} (h : Row w g l) (hk : k < l.length) (b : UInt8) {n : Int} (hn : n = (b.toNat : Int)) : Row (w.setCell ⟨g, k, none⟩ (.int .u8 n)) g (l.set k b) := by
  subst hn
  intro i hi
  have hi' : i < l.length := by simpa using hi
  refine ⟨?_, by rw [World.frozen?_setCell]; exact (h i hi').2⟩
  by_cases e : k = i
  · subst e
    rw [World.cell?_setCell_same _ _ _ (h k hk).1]
    simp [List.getD_eq_getElem?_getD, hk]
  · rw [World.cell?_setCell_other _ _ _ _ (fun h' => e (congrArg Addr.off h'))]
    rw [(h i hi').1]
    simp [List.getD_eq_getElem?_getD, e]
theorem Row.same {w w' : World} {g : Nat} {l : List UInt8} (h : Row w g l) (hb : w'.heap[g]? = w.heap[g]?) : Row w' g l := fun i hi => by
  have := h i hi
  unfold World.cell? World.frozen? at *
  rw [hb]; exact this
/-- A row of bytes as a string. -/
theorem Row.conv {w : World} {g cap : Nat} {l : List UInt8} (h : Row w g l) : (convert 41 9 (.slice (some ⟨g, 0, none⟩) l.length cap)).run Try.prog w = .ok (.string ⟨l.toArray⟩) w := by
  have hc := run_convert_bytes_arg (P := Try.prog) w 41 5 Try.underlying41 Try.underlying5 g 0 l.length cap (l.map fun b => (b.toNat : Int)) (by simp) (fun i hi => by
    rw [Nat.zero_add, (h i hi).1]; simp [List.getD_eq_getElem?_getD, hi]) 9 Try.underlying9
  rw [hc]
  congr 3
  simp only [strOfNums, List.map_map]
  congr 2
  exact (List.map_congr_left (fun b _ => by simp)).trans (List.map_id l)

/-- The first k bytes of a with those of b added. -/
def mixed (a b : List UInt8) (k : Nat) : List UInt8 := List.zipWith (fun x y => x ^^^ y) (a.take k) (b.take k) ++ a.drop k
theorem mixed_zero (a b : List UInt8) : mixed a b 0 = a := by simp [mixed]
theorem mixed_length (a b : List UInt8) (h : b.length = a.length) (k : Nat) (hk : k ≤ a.length) : (mixed a b k).length = a.length := by unfold mixed; simp; omega
theorem mixed_all (a b : List UInt8) (h : b.length = a.length) : mixed a b a.length = List.zipWith (fun x y => x ^^^ y) a b := by
  unfold mixed; rw [List.take_of_length_le (Nat.le_refl _), List.take_of_length_le (by omega), List.drop_of_length_le (Nat.le_refl _), List.append_nil]
theorem mixed_at (a b : List UInt8) (h : b.length = a.length) (k : Nat) (hk : k < a.length) : (mixed a b k).getD k 0 = a.getD k 0 := by
  unfold mixed
  rw [List.getD_eq_getElem?_getD, List.getElem?_append_right (by simp; omega)]
  simp [List.getD_eq_getElem?_getD, h, Nat.min_eq_left (Nat.le_of_lt hk)]
theorem mixed_next (a b : List UInt8) (h : b.length = a.length) (k : Nat) (hk : k < a.length) : (mixed a b k).set k (a.getD k 0 ^^^ b.getD k 0) = mixed a b (k + 1) := by
  unfold mixed
  have hz : (List.zipWith (fun x y => x ^^^ y) (a.take k) (b.take k)).length = k := by simp; omega
  rw [List.set_append_right _ _ (by omega), hz, Nat.sub_self, List.drop_eq_getElem_cons hk, List.set_cons_zero,
    List.take_succ_eq_append_getElem hk, List.take_succ_eq_append_getElem (by omega), List.zipWith_append (by simp; omega)]
  simp [List.getD_eq_getElem?_getD, hk, h]
namespace crcLinear
open Go.ChangeShapes Go.WideShapes Go.ChangeAt
open Go.ChangeMaps (shut_string open_string)
theorem own : ownKnob Try.prog.godebug = none := by kernel_rfl

end crcLinear
end Go.Proofs.Ytilpbbpdchbdfaa.Cr

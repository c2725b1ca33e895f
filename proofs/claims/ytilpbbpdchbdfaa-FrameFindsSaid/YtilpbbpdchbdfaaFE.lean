/- The bytes of a frame, by package frame. -/
import Derived.Test.YtilpbbpdchbdfaaFWI
import Derived.Test.YtilpbbpdchbdfaaF4
import Derived.Test.YtilpbbpdchbdfaaF5
import Derived.OwnWalk
namespace Go.Proofs.Ytilpbbpdchbdfaa
open Go.RowKit

/-- The bits of a frame as a writer has them. -/
def wst (f : Fr) : List Nat × Int := (stAll Wc.wU Wc.wS Wc.wT (([], 0), f)).1
/-- The bytes, the number of bits, and the error. -/
def wrR (f : Fr) : ByteArray × Nat × Int := if (wst f).2 ≠ 0 ∨ 1000 < (wst f).1.length then (⟨#[]⟩, 0, 8) else (Bit.wbytes (wst f), (wst f).1.length, 0)
theorem WI_init (w : World) (f : Fr) (hb : -9223372036854775808 ≤ f.k ∧ f.k ≤ 9223372036854775807) (hd : f.d.size ≤ 9223372036854775807) :
    Wc.WI w w.heap.size (w.heap.size + 2) (w.heap.size + 1) (([], 0), f) [] (((w.alloc (.cells (frC f) 23)).alloc (.cells #[.slice none 0 0, .int .i64 0, .int .i64 0] 105)).alloc (.cells #[.pointer (some ⟨w.heap.size + 1, 0, none⟩)] 78)) := by
  have hw := Bit.Wr.new (w.alloc (.cells (frC f) 23))
  have e1 : (w.alloc (.cells (frC f) 23)).heap.size = w.heap.size + 1 := by simp
  rw [e1] at hw
  refine ⟨none, hw.keep (S := fun _ => False) ((Bit.Keeps.refl _ _).alloc _) (fun x => x) (fun _ _ x => x), ?_, fun g hg => by cases hg⟩
  refine { hf := ?_, hc := ?_, hs := ((((Same.refl w).alloc _).alloc _).alloc _), lo := ⟨Nat.le_refl _, by omega, by omega⟩, ne := ⟨by omega, by omega, by omega⟩, bd := hb, sz := hd, at' := fun p hp => (by cases hp), pw := List.Pairwise.nil }
  · rw [Below.heap_alloc _ _ _ (by simp; omega), Below.heap_alloc _ _ _ (by simp)]
    exact heap_alloc_new w _
  · have := heap_alloc_new ((w.alloc (.cells (frC f) 23)).alloc (.cells #[.slice none 0 0, .int .i64 0, .int .i64 0] 105)) (.cells #[.pointer (some ⟨w.heap.size + 1, 0, none⟩)] 78)
    simpa using this
theorem WI_end {w0 w : World} {fb cb a : Nat} {x : (List Nat × Int) × Fr} (h : Wc.WI w0 fb cb a x [] w) :
    Same w0 w ∧ w.cell? ⟨cb, 0, none⟩ = some (.pointer (some ⟨a, 0, none⟩)) ∧ (∀ w', Same w w' → Calls Try.prog 69 #[.pointer (some ⟨a, 0, none⟩)] w' fun e w2 => e = .returned (.tuple #[.string (Bit.wbytes x.1), .int .i64 x.1.2]) ∧ Same w' w2) ∧ (∀ w', Same w w' → Calls Try.prog 70 #[.pointer (some ⟨a, 0, none⟩)] w' fun e w2 => e = .returned (.int .i64 x.1.1.length) ∧ w2 = w') := by
  obtain ⟨d, h1, h2, h3⟩ := h
  have hk := fun (w' : World) (k : Same w w') => h1.keep (S := fun _ => False) k.keeps (fun x => x) (fun _ _ x => x)
  exact ⟨h2.hs, h2.ccell, fun w' k => (Bit.wbytes_any w' a x.1 d (hk w' k)).mono fun _ _ ⟨he, hs⟩ => ⟨he, Same.ofKeeps hs⟩, fun w' k => (Bit.wbits_any w' a x.1 d (hk w' k)).mono fun _ _ ⟨he, hs⟩ => ⟨he, hs.symm⟩⟩
set_option maxRecDepth 100000 in
theorem write_core (k s t l q fl n e sl r ep : Int) (d : ByteArray) (st : List Nat × Int) (hst : wst ⟨k, s, t, l, q, fl, n, e, sl, r, ep, d⟩ = st) (hb : -9223372036854775808 ≤ k ∧ k ≤ 9223372036854775807) (hd : d.size ≤ 9223372036854775807) (S : ByteArray) (hS : Bit.wbytes st = S) (L : Nat) (hL : st.1.length = L) (E : Int) (hE : st.2 = E) (R : ByteArray × Nat × Int) (hR : (if E ≠ 0 ∨ 1000 < L then ((⟨#[]⟩, 0, 8) : ByteArray × Nat × Int) else (S, L, 0)) = R) (w : World) :
    Calls Try.prog 30 #[frV ⟨k, s, t, l, q, fl, n, e, sl, r, ep, d⟩] w fun e w' => e = .returned (.tuple #[.string R.1, .int .i64 R.2.1, .int .i64 R.2.2]) ∧ Same w w' := by
  have hi := WI_init w ⟨k, s, t, l, q, fl, n, e, sl, r, ep, d⟩ hb hd
  have ha := Wc.all_any (Wc.coder w w.heap.size (w.heap.size + 2) (w.heap.size + 1)) hi
  have HN := Lib.hid (fun w => Bit.newWriter_any w)
  have ha2 : Calls Try.prog 68 #[.agg (Wc.pCs w.heap.size (w.heap.size + 2))] (((w.alloc (.cells (frC ⟨k, s, t, l, q, fl, n, e, sl, r, ep, d⟩) 23)).alloc (.cells #[.slice none 0 0, .int .i64 0, .int .i64 0] 105)).alloc (.cells #[.pointer (some ⟨w.heap.size + 1, 0, none⟩)] 78)) fun e w' => e = .returned (.tuple #[]) ∧ Same w w' ∧ w'.cell? ⟨w.heap.size + 2, 0, none⟩ = some (.pointer (some ⟨w.heap.size + 1, 0, none⟩)) ∧ (∀ w1, Same w' w1 → Calls Try.prog 69 #[.pointer (some ⟨w.heap.size + 1, 0, none⟩)] w1 fun e w2 => e = .returned (.tuple #[.string S, .int .i64 E]) ∧ Same w1 w2) ∧ (∀ w1, Same w' w1 → Calls Try.prog 70 #[.pointer (some ⟨w.heap.size + 1, 0, none⟩)] w1 fun e w2 => e = .returned (.int .i64 L) ∧ w2 = w1) :=
    ha.mono fun e1 w' ⟨he, hw⟩ => by
      have := WI_end hw
      have e1 : (stAll (Wc.coder w w.heap.size (w.heap.size + 2) (w.heap.size + 1)).U (Wc.coder w w.heap.size (w.heap.size + 2) (w.heap.size + 1)).Sg (Wc.coder w w.heap.size (w.heap.size + 2) (w.heap.size + 1)).Tx (([], 0), ⟨k, s, t, l, q, fl, n, e, sl, r, ep, d⟩)).1 = st := hst
      rw [e1, hS, hL, hE] at this
      exact ⟨he, this⟩
  have HA := Lib.hid ha2
  have HR := Lib.hid hR
  clear hi ha ha2 hst hb hd hS hL hE hR
  by_cases h0 : E ≠ 0
  · have e1 : (E != 0) = true := by simpa using h0
    have HR2 := Lib.hid (show R = (⟨#[]⟩, 0, 8) by rw [← HR.out, if_pos (Or.inl h0)])
    clear h0 HR
    go_enter Try.func30, Try.ntmps30
    go_wp2_with (first
      | (go_at_call 61; (with_reducible refine (HN.out _).mono ?_); rintro e w1 ⟨rfl, hw⟩; subst hw)
      | (go_at_call 68; (with_reducible refine (HA.out).mono ?_); rintro e w2 ⟨rfl, hs2, hc2, hb2, hl2⟩; have HS2 := Lib.hid hs2; have HB2 := Lib.hid hb2; have HL2 := Lib.hid hl2; clear hs2 hb2 hl2)
      | (go_at_call 69; (with_reducible refine (HB2.out _ (Same.refl _)).mono ?_); rintro e w3 ⟨rfl, h3⟩; have c3 := h3.cell hc2; have H3 := Lib.hid h3; clear h3))
    go_ret3
    exact ⟨by rw [HR2.out]; rfl, HS2.out.trans H3.out⟩
  · have h0' : E = 0 := by simpa using h0
    subst h0'
    by_cases h1 : 1000 < L
    · have e1 : decide ((1000 : Int) < (L : Int)) = true := decide_eq_true (by omega)
      have HR2 := Lib.hid (show R = (⟨#[]⟩, 0, 8) by rw [← HR.out, if_pos (Or.inr h1)])
      clear h0 HR h1
      go_enter Try.func30, Try.ntmps30
      go_wp2_with (first
        | (go_at_call 61; (with_reducible refine (HN.out _).mono ?_); rintro e w1 ⟨rfl, hw⟩; subst hw)
        | (go_at_call 68; (with_reducible refine (HA.out).mono ?_); rintro e w2 ⟨rfl, hs2, hc2, hb2, hl2⟩; have HS2 := Lib.hid hs2; have HB2 := Lib.hid hb2; have HL2 := Lib.hid hl2; clear hs2 hb2 hl2)
        | (go_at_call 69; (with_reducible refine (HB2.out _ (Same.refl _)).mono ?_); rintro e w3 ⟨rfl, h3⟩; have c3 := h3.cell hc2; have H3 := Lib.hid h3; clear h3)
        | (go_at_call 70; (with_reducible refine (HL2.out _ H3.out).mono ?_); rintro e w4 ⟨rfl, h4⟩; replace h4 := h4.symm; subst h4))
      go_ret3
      exact ⟨by rw [HR2.out]; rfl, HS2.out.trans H3.out⟩
    · have e1 : decide ((1000 : Int) < (L : Int)) = false := decide_eq_false (by omega)
      have HR2 := Lib.hid (show R = (S, L, 0) by rw [← HR.out, if_neg (fun x => x.elim (fun y => y rfl) h1)])
      clear h0 HR h1
      go_enter Try.func30, Try.ntmps30
      go_wp2_with (first
        | (go_at_call 61; (with_reducible refine (HN.out _).mono ?_); rintro e w1 ⟨rfl, hw⟩; subst hw)
        | (go_at_call 68; (with_reducible refine (HA.out).mono ?_); rintro e w2 ⟨rfl, hs2, hc2, hb2, hl2⟩; have HS2 := Lib.hid hs2; have HB2 := Lib.hid hb2; have HL2 := Lib.hid hl2; clear hs2 hb2 hl2)
        | (go_at_call 69; (with_reducible refine (HB2.out _ (Same.refl _)).mono ?_); rintro e w3 ⟨rfl, h3⟩; have c3 := h3.cell hc2; have H3 := Lib.hid h3; clear h3)
        | (go_at_call 70; (with_reducible refine (HL2.out _ H3.out).mono ?_); rintro e w4 ⟨rfl, h4⟩; replace h4 := h4.symm; subst h4))
      go_ret3
      exact ⟨by rw [HR2.out]; rfl, HS2.out.trans H3.out⟩
theorem write_any (f : Fr) (hb : -9223372036854775808 ≤ f.k ∧ f.k ≤ 9223372036854775807) (hd : f.d.size ≤ 9223372036854775807) (w : World) :
    Calls Try.prog 30 #[frV f] w fun e w' => e = .returned (.tuple #[.string (wrR f).1, .int .i64 (wrR f).2.1, .int .i64 (wrR f).2.2]) ∧ Same w w' := by
  obtain ⟨k, s, t, l, q, fl, n, e, sl, r, ep, d⟩ := f
  exact write_core k s t l q fl n e sl r ep d _ rfl hb hd _ rfl _ rfl _ rfl _ rfl w
end Go.Proofs.Ytilpbbpdchbdfaa

/- A reader that takes a frame's fields. -/
import Derived.Test.YtilpbbpdchbdfaaFR
import Derived.Test.YtilpbbpdchbdfaaFK
import Derived.Test.YtilpbbpdchbdfaaBReader3
import Derived.Test.YtilpbbpdchbdfaaBPlainB
namespace Go.Proofs.Ytilpbbpdchbdfaa.Rc
open Go.RowKit

theorem rnum_lt (s : ByteArray) (l wd : Int) (st : Nat × Int) : (Bit.rnum s l wd st).2 < 9223372036854775808 := by
  unfold Bit.rnum
  split
  · simp
  · split
    · simp
    · split
      · simp
      · simp only
        have h := Bit.val_sbits_lt s st.1 wd.toNat
        have hp : 2 ^ wd.toNat ≤ 2 ^ 63 := Nat.pow_le_pow_right (by decide) (by omega)
        have e : (2 : Nat) ^ 63 = 9223372036854775808 := by decide
        omega
theorem rtext_size (s : ByteArray) (st : Nat × Int) : (Bit.rtext s 127 st).2.size ≤ 127 := by
  unfold Bit.rtext
  split
  · simp [ByteArray.size]
  · split
    · simp [ByteArray.size]
    · dsimp only
      split
      · simp [ByteArray.size]
      · split
        · simp [ByteArray.size]
        · split
          · simp [ByteArray.size]
          · rw [Bit.strB_size, Bit.rbytes_length]; omega
theorem to_cell {w w' : World} {a : Nat} {s : ByteArray} {st : Nat × Int} (h : Bit.ReTo w a s st w') {b o : Nat} {v : Value} (hb : b ≠ a) (hc : w.cell? ⟨b, o, none⟩ = some v) : w'.cell? ⟨b, o, none⟩ = some v := by
  have hk := h.2.block b (World.block_lt_of_cell? w _ hc) (fun e => hb e)
  rw [World.cell?_of_block (w := w) hk]; exact hc
theorem to_frozen {w w' : World} {a : Nat} {s : ByteArray} {st : Nat × Int} (h : Bit.ReTo w a s st w') {b o : Nat} {v : Value} (hb : b ≠ a) (hc : w.cell? ⟨b, o, none⟩ = some v) (hf : w.frozen? ⟨b, o, none⟩ = false) : w'.frozen? ⟨b, o, none⟩ = false := by
  have hk := h.2.block b (World.block_lt_of_cell? w _ hc) (fun e => hb e)
  unfold World.frozen? at hf ⊢
  simp only at hf ⊢
  rw [hk]; exact hf
set_option maxRecDepth 100000 in
theorem c1_any (w : World) (a cb b o : Nat) (s : ByteArray) (st : Nat × Int) (h : Bit.Re w a s st) (wd : Int) (v : Value) (hc : w.cell? ⟨cb, 0, none⟩ = some (.pointer (some ⟨a, 0, none⟩))) (hn : w.cell? ⟨b, o, none⟩ = some v) (hf : w.frozen? ⟨b, o, none⟩ = false) (hb : b ≠ a) :
    Calls Try.prog 77 #[.int .i64 wd, .pointer (some ⟨b, o, none⟩), .pointer (some ⟨cb, 0, none⟩)] w fun e w' => e = .returned (.tuple #[]) ∧ ∃ w1, Bit.ReTo w a s (Bit.rnum s 1 wd st).1 w1 ∧ w' = w1.setCell ⟨b, o, none⟩ (.int .i64 (Bit.rnum s 1 wd st).2) := by
  have hcall := Bit.runsigned_any w a s st h wd
  have HK := Lib.hid (fun (w1 : World) (st1 : Nat × Int) (k : Bit.ReTo w a s st1 w1) => And.intro (to_cell k hb hn) (to_frozen k hb hn hf))
  generalize Bit.rnum s 1 wd st = R at *
  have HC := Lib.hid hcall
  clear hcall h hn hf hb
  go_enter Try.func77, Try.ntmps77
  go_wp2_with (go_at_call 78; (with_reducible refine (HC.out).mono ?_); rintro e w1 ⟨rfl, h1⟩; obtain ⟨k1, k2⟩ := HK.out _ _ h1; have H1 := Lib.hid h1; clear h1)
  go_end0
  exact ⟨rfl, w1, H1.out, rfl⟩
set_option maxRecDepth 100000 in
theorem c2_any (w : World) (a cb b o : Nat) (s : ByteArray) (st : Nat × Int) (h : Bit.Re w a s st) (wd : Int) (v : Value) (hc : w.cell? ⟨cb, 0, none⟩ = some (.pointer (some ⟨a, 0, none⟩))) (hn : w.cell? ⟨b, o, none⟩ = some v) (hf : w.frozen? ⟨b, o, none⟩ = false) (hb : b ≠ a) :
    Calls Try.prog 79 #[.int .i64 wd, .pointer (some ⟨b, o, none⟩), .pointer (some ⟨cb, 0, none⟩)] w fun e w' => e = .returned (.tuple #[]) ∧ ∃ w1, Bit.ReTo w a s (Bit.rsig s wd st).1 w1 ∧ w' = w1.setCell ⟨b, o, none⟩ (.int .i64 (Bit.rsig s wd st).2) := by
  have hcall := Bit.rsigned_any w a s st h wd
  have HK := Lib.hid (fun (w1 : World) (st1 : Nat × Int) (k : Bit.ReTo w a s st1 w1) => And.intro (to_cell k hb hn) (to_frozen k hb hn hf))
  generalize Bit.rsig s wd st = R at *
  have HC := Lib.hid hcall
  clear hcall h hn hf hb
  go_enter Try.func79, Try.ntmps79
  go_wp2_with (go_at_call 80; (with_reducible refine (HC.out).mono ?_); rintro e w1 ⟨rfl, h1⟩; obtain ⟨k1, k2⟩ := HK.out _ _ h1; have H1 := Lib.hid h1; clear h1)
  go_end0
  exact ⟨rfl, w1, H1.out, rfl⟩
set_option maxRecDepth 100000 in
theorem c3_any (w : World) (a cb b o : Nat) (s : ByteArray) (st : Nat × Int) (h : Bit.Re w a s st) (v : Value) (hc : w.cell? ⟨cb, 0, none⟩ = some (.pointer (some ⟨a, 0, none⟩))) (hn : w.cell? ⟨b, o, none⟩ = some v) (hf : w.frozen? ⟨b, o, none⟩ = false) (hb : b ≠ a) :
    Calls Try.prog 81 #[.int .i64 127, .pointer (some ⟨b, o, none⟩), .pointer (some ⟨cb, 0, none⟩)] w fun e w' => e = .returned (.tuple #[]) ∧ ∃ w1, Bit.ReTo w a s (Bit.rtext s 127 st).1 w1 ∧ w' = w1.setCell ⟨b, o, none⟩ (.string (Bit.rtext s 127 st).2) := by
  have hcall := Bit.rtext_any w a s st h 127 (by decide)
  have HK := Lib.hid (fun (w1 : World) (st1 : Nat × Int) (k : Bit.ReTo w a s st1 w1) => And.intro (to_cell k hb hn) (to_frozen k hb hn hf))
  generalize Bit.rtext s 127 st = R at *
  have HC := Lib.hid hcall
  clear hcall h hn hf hb
  go_enter Try.func81, Try.ntmps81
  go_wp2_with (go_at_call 82; (with_reducible refine (HC.out).mono ?_); rintro e w1 ⟨rfl, h1⟩; obtain ⟨k1, k2⟩ := HK.out _ _ h1; have H1 := Lib.hid h1; clear h1)
  go_end0
  exact ⟨rfl, w1, H1.out, rfl⟩

/-- The reader at a, and what lies beside it. -/
def RI (w0 : World) (fb cb a : Nat) (s : ByteArray) (x : (Nat × Int) × Fr) (P : List (Nat × Obj)) (w : World) : Prop :=
  Bit.Re w a s x.1 ∧ Core w0 fb cb a 91 x.2 P w
section
variable {w0 : World} {fb cb a : Nat} {s : ByteArray} {x : (Nat × Int) × Fr} {P : List (Nat × Obj)} {w : World}
theorem RI.read {w1 : World} {st2 : Nat × Int} (h : RI w0 fb cb a s x P w) (k : Bit.ReTo w a s st2 w1) : RI w0 fb cb a s (st2, x.2) P w1 := by
  have hn := h.2.ne
  have hl := h.2.lo
  exact ⟨k.1, h.2.keep k.2 (fun e => hn.1 (Eq.symm e)) (fun e => hn.2.1 (Eq.symm e)) (fun p hp e => (h.2.at' p hp).2.1 e) (fun i hi e => by omega)⟩
theorem RI.setF {i : Nat} {u : Value} {f' : Fr} (h : RI w0 fb cb a s x P w) (hi : (frC x.2).setIfInBounds i u = frC f') (hb : -9223372036854775808 ≤ f'.k ∧ f'.k ≤ 9223372036854775807) (hd : f'.d.size ≤ 9223372036854775807) : RI w0 fb cb a s (x.1, f') P (w.setCell ⟨fb, i, none⟩ u) := by
  have k : Bit.Keeps (fun j => j = fb) w (w.setCell ⟨fb, i, none⟩ u) := Bit.Keeps.setCell (S := fun j => j = fb) (Bit.Keeps.refl _ w) (p := ⟨fb, i, none⟩) (fun _ => rfl) _
  exact ⟨h.1.keep k (fun e => h.2.ne.1 e), h.2.setF hi hb hd⟩
theorem RI.setBox {b : Nat} {v : Value} {T : TypeId} (u : Value) (h : RI w0 fb cb a s x ((b, .cells #[v] T (0, 0)) :: P) w) : RI w0 fb cb a s x ((b, .cells #[u] T (0, 0)) :: P) (w.setCell ⟨b, 0, none⟩ u) := by
  have hb := h.2.at' _ (List.mem_cons_self ..)
  have k : Bit.Keeps (fun i => i = b) w (w.setCell ⟨b, 0, none⟩ u) := Bit.Keeps.setCell (S := fun i => i = b) (Bit.Keeps.refl _ w) (p := ⟨b, 0, none⟩) (fun _ => rfl) u
  simp only at hb
  exact ⟨h.1.keep k (fun e => hb.2.1 (Eq.symm e)), h.2.setBox u⟩
end
def rU (s : ByteArray) (wd _n : Int) (st : Nat × Int) : (Nat × Int) × Int := ((Bit.rnum s 1 wd st).1, (Bit.rnum s 1 wd st).2)
def rS (s : ByteArray) (wd _n : Int) (st : Nat × Int) : (Nat × Int) × Int := ((Bit.rsig s wd st).1, (Bit.rsig s wd st).2)
def rT (s : ByteArray) (_m : Int) (_t : ByteArray) (st : Nat × Int) : (Nat × Int) × ByteArray := ((Bit.rtext s 127 st).1, (Bit.rtext s 127 st).2)
theorem set_k (f : Fr) (i : Nat) (v : Int) (h : -9223372036854775808 ≤ f.k ∧ f.k ≤ 9223372036854775807) (hv : 0 ≤ v ∧ v < 9223372036854775808) : -9223372036854775808 ≤ (f.set i v).k ∧ (f.set i v).k ≤ 9223372036854775807 := by
  unfold Fr.set
  split <;> simp only <;> omega
theorem set_d (f : Fr) (i : Nat) (v : Int) : (f.set i v).d = f.d := by
  unfold Fr.set
  split <;> rfl
def coder (w0 : World) (fb cb a : Nat) (s : ByteArray) : Coder (Nat × Int) fb cb where
  inv := RI w0 fb cb a s
  U := rU s
  Sg := rS s
  Tx := rT s
  frm := fun h => h.2.hf
  bnd := fun h => h.2.bd
  mem := fun h p hp => (h.2.at' p hp).1
  same := fun h k => ⟨h.1.keep (S := fun _ => False) k.keeps (fun x => x), h.2.same k⟩
  alloc := fun cs T h => ⟨h.1.keep (S := fun _ => False) ((Bit.Keeps.refl _ _).alloc _) (fun x => x), h.2.alloc h.1.lt cs T⟩
  drop := fun h => ⟨h.1, h.2.drop⟩
  setBox := fun u h => h.setBox u
  setT := fun h => h.setF (i := 2) rfl h.2.bd h.2.sz
  cU := fun {x P w} i wd hi h => by
    have hv := rnum_lt s 1 wd x.1
    refine (c1_any w a cb fb i s x.1 h.1 wd _ h.2.ccell (h.2.fcell i hi).1 (h.2.fcell i hi).2 (fun e => h.2.ne.1 (Eq.symm e))).mono fun e w' ⟨he, w1, hk, hw⟩ => ⟨he, ?_⟩
    subst hw
    have h1 := h.read hk
    exact h1.setF (i := i) (frC_set _ i hi _) (set_k _ _ _ h.2.bd ⟨Int.natCast_nonneg _, (by show ((Bit.rnum s 1 wd x.1).2 : Int) < _; omega)⟩) (by rw [set_d]; exact h.2.sz)
  cB := fun {x b n P w} wd h => by
    have hb := h.2.at' _ (List.mem_cons_self ..)
    simp only at hb
    have hb0 := hb.1
    refine (c1_any w a cb b 0 s x.1 h.1 wd (.int .i64 n) h.2.ccell (by simp [World.cell?, hb0]) (by simp [World.frozen?, hb0]) hb.2.1).mono fun e w' ⟨he, w1, hk, hw⟩ => ⟨he, ?_⟩
    subst hw
    exact (h.read hk).setBox _
  cS := fun {x P w} wd h => by
    refine (c2_any w a cb fb 7 s x.1 h.1 wd _ h.2.ccell (h.2.fcell 7 (by decide)).1 (h.2.fcell 7 (by decide)).2 (fun e => h.2.ne.1 (Eq.symm e))).mono fun e w' ⟨he, w1, hk, hw⟩ => ⟨he, ?_⟩
    subst hw
    exact (h.read hk).setF (i := 7) rfl h.2.bd h.2.sz
  cT := fun {x P w} h => by
    have hz := rtext_size s x.1
    refine (c3_any w a cb fb 11 s x.1 h.1 _ h.2.ccell h.2.dcell.1 h.2.dcell.2 (fun e => h.2.ne.1 (Eq.symm e))).mono fun e w' ⟨he, w1, hk, hw⟩ => ⟨he, ?_⟩
    subst hw
    exact (h.read hk).setF (i := 11) rfl h.2.bd (by unfold rT; simp only; omega)
end Go.Proofs.Ytilpbbpdchbdfaa.Rc

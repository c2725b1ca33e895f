/- A writer that takes a frame's fields. -/
import Derived.Test.YtilpbbpdchbdfaaFW
import Derived.Test.YtilpbbpdchbdfaaFK
import Derived.Test.YtilpbbpdchbdfaaBUniform
namespace Go.Proofs.Ytilpbbpdchbdfaa.Wc
open Go.RowKit

theorem to_drew {w w' : World} {a : Nat} {d : Option Nat} {st : List Nat × Int} (h : Bit.WrTo w.drew a d st w') : Bit.WrTo w a d st w' :=
  Bit.WrTo.trans ((Bit.Keeps.refl _ w).drew) (fun _ hg => .inl hg) h
theorem wr_drew {w : World} {a : Nat} {d : Option Nat} {st : List Nat × Int} (h : Bit.Wr w a st d) : Bit.Wr w.drew a st d :=
  h.keep (S := fun _ => False) ((Bit.Keeps.refl _ w).drew) (fun x => x) (fun _ _ x => x)
theorem to_cell {w w' : World} {a : Nat} {d : Option Nat} {st : List Nat × Int} (h : Bit.WrTo w a d st w') {b o : Nat} {v : Value} (hb : b ≠ a ∧ d ≠ some b) (hc : w.cell? ⟨b, o, none⟩ = some v) : w'.cell? ⟨b, o, none⟩ = some v := by
  obtain ⟨_, _, k, _⟩ := h
  have hk := k.block b (World.block_lt_of_cell? w _ hc) (by rintro (e | e); exact hb.1 e; exact hb.2 e)
  rw [World.cell?_of_block (w := w) hk]; exact hc
set_option maxRecDepth 100000 in
theorem c1_any (w : World) (a cb b o : Nat) (st : List Nat × Int) (d : Option Nat) (h : Bit.Wr w a st d) (wd n : Int) (hc : w.cell? ⟨cb, 0, none⟩ = some (.pointer (some ⟨a, 0, none⟩))) (hn : w.cell? ⟨b, o, none⟩ = some (.int .i64 n)) (hcb : cb ≠ a ∧ d ≠ some cb) (hbb : b ≠ a ∧ d ≠ some b) :
    Calls Try.prog 62 #[.int .i64 wd, .pointer (some ⟨b, o, none⟩), .pointer (some ⟨cb, 0, none⟩)] w fun e w' => e = .returned (.tuple #[]) ∧ Bit.WrTo w a d (Bit.wuns wd n st) w' := by
  have hcall := Bit.wunsigned_any w.drew a st d (wr_drew h) wd n
  generalize Bit.wuns wd n st = s2 at *
  have HC := Lib.hid hcall
  have hc' : w.drew.cell? ⟨cb, 0, none⟩ = some (.pointer (some ⟨a, 0, none⟩)) := hc
  have hn' : w.drew.cell? ⟨b, o, none⟩ = some (.int .i64 n) := hn
  clear hcall h
  go_enter Try.func62, Try.ntmps62
  go_region_held3 (fun w' => w'.cell? ⟨cb, 0, none⟩ = some (.pointer (some ⟨a, 0, none⟩)) ∧ w'.cell? ⟨b, o, none⟩ = some (.int .i64 n)) (first | exact ⟨hc', hn'⟩ | exact ⟨to_cell h1 hcb hc', to_cell h1 hbb hn'⟩ | assumption)
    (first | (go_at_call 63; (with_reducible refine (HC.out).mono ?_); rintro e w1 ⟨rfl, h1⟩) | fail)
  have HF := Lib.hid (to_drew h1)
  clear h1 HC hc hn hc' hn'
  go_wp2
  go_end0
  exact ⟨rfl, HF.out⟩
set_option maxRecDepth 100000 in
theorem c2_any (w : World) (a cb b o : Nat) (st : List Nat × Int) (d : Option Nat) (h : Bit.Wr w a st d) (wd n : Int) (hc : w.cell? ⟨cb, 0, none⟩ = some (.pointer (some ⟨a, 0, none⟩))) (hn : w.cell? ⟨b, o, none⟩ = some (.int .i64 n)) (hcb : cb ≠ a ∧ d ≠ some cb) (hbb : b ≠ a ∧ d ≠ some b) :
    Calls Try.prog 64 #[.int .i64 wd, .pointer (some ⟨b, o, none⟩), .pointer (some ⟨cb, 0, none⟩)] w fun e w' => e = .returned (.tuple #[]) ∧ Bit.WrTo w a d (Bit.wsig wd n st) w' := by
  have hcall := Bit.wsigned_any w.drew a st d (wr_drew h) wd n
  generalize Bit.wsig wd n st = s2 at *
  have HC := Lib.hid hcall
  have hc' : w.drew.cell? ⟨cb, 0, none⟩ = some (.pointer (some ⟨a, 0, none⟩)) := hc
  have hn' : w.drew.cell? ⟨b, o, none⟩ = some (.int .i64 n) := hn
  clear hcall h
  go_enter Try.func64, Try.ntmps64
  go_region_held3 (fun w' => w'.cell? ⟨cb, 0, none⟩ = some (.pointer (some ⟨a, 0, none⟩)) ∧ w'.cell? ⟨b, o, none⟩ = some (.int .i64 n)) (first | exact ⟨hc', hn'⟩ | exact ⟨to_cell h1 hcb hc', to_cell h1 hbb hn'⟩ | assumption)
    (first | (go_at_call 65; (with_reducible refine (HC.out).mono ?_); rintro e w1 ⟨rfl, h1⟩) | fail)
  have HF := Lib.hid (to_drew h1)
  clear h1 HC hc hn hc' hn'
  go_wp2
  go_end0
  exact ⟨rfl, HF.out⟩
set_option maxRecDepth 100000 in
theorem c3_any (w : World) (a cb b o : Nat) (st : List Nat × Int) (d : Option Nat) (h : Bit.Wr w a st d) (s : ByteArray) (hs : s.size ≤ 9223372036854775807) (hc : w.cell? ⟨cb, 0, none⟩ = some (.pointer (some ⟨a, 0, none⟩))) (hn : w.cell? ⟨b, o, none⟩ = some (.string s)) (hcb : cb ≠ a ∧ d ≠ some cb) (hbb : b ≠ a ∧ d ≠ some b) :
    Calls Try.prog 66 #[.int .i64 127, .pointer (some ⟨b, o, none⟩), .pointer (some ⟨cb, 0, none⟩)] w fun e w' => e = .returned (.tuple #[]) ∧ Bit.WrTo w a d (Bit.wtext 127 s st) w' := by
  have hcall := Bit.wtext_any w.drew a st d (wr_drew h) 127 (by decide) s hs
  generalize Bit.wtext 127 s st = s2 at *
  have HC := Lib.hid hcall
  have hc' : w.drew.cell? ⟨cb, 0, none⟩ = some (.pointer (some ⟨a, 0, none⟩)) := hc
  have hn' : w.drew.cell? ⟨b, o, none⟩ = some (.string s) := hn
  clear hcall h hs
  go_enter Try.func66, Try.ntmps66
  go_region_held3 (fun w' => w'.cell? ⟨cb, 0, none⟩ = some (.pointer (some ⟨a, 0, none⟩)) ∧ w'.cell? ⟨b, o, none⟩ = some (.string s)) (first | exact ⟨hc', hn'⟩ | exact ⟨to_cell h1 hcb hc', to_cell h1 hbb hn'⟩ | assumption)
    (first | (go_at_call 67; (with_reducible refine (HC.out).mono ?_); rintro e w1 ⟨rfl, h1⟩) | fail)
  have HF := Lib.hid (to_drew h1)
  clear h1 HC hc hn hc' hn'
  go_wp2
  go_end0
  exact ⟨rfl, HF.out⟩

/-- The writer at a, and what lies beside it. -/
def WI (w0 : World) (fb cb a : Nat) (x : (List Nat × Int) × Fr) (P : List (Nat × Obj)) (w : World) : Prop :=
  ∃ d, Bit.Wr w a x.1 d ∧ Core w0 fb cb a 78 x.2 P w ∧ ∀ g, d = some g → w0.heap.size ≤ g ∧ g ≠ fb ∧ g ≠ cb ∧ ∀ p ∈ P, p.1 ≠ g
section
variable {w0 : World} {fb cb a : Nat} {x : (List Nat × Int) × Fr} {P : List (Nat × Obj)} {w : World}
theorem WI.step {w' : World} {st2 : List Nat × Int} (d : Option Nat) (hc : Core w0 fb cb a 78 x.2 P w) (hd : ∀ g, d = some g → w0.heap.size ≤ g ∧ g ≠ fb ∧ g ≠ cb ∧ ∀ p ∈ P, p.1 ≠ g) (k : Bit.WrTo w a d st2 w') : WI w0 fb cb a (st2, x.2) P w' := by
  obtain ⟨d2, h1, h2, h3⟩ := k
  have hn := hc.ne
  have hl := hc.lo
  refine ⟨d2, h1, hc.keep h2 ?_ ?_ ?_ ?_, ?_⟩
  · rintro (e | e)
    · exact hn.1 e.symm
    · exact (hd _ e).2.1 rfl
  · rintro (e | e)
    · exact hn.2.1 e.symm
    · exact (hd _ e).2.2.1 rfl
  · rintro p hp (e | e)
    · exact (hc.at' p hp).2.1 e
    · exact (hd _ e).2.2.2 p hp rfl
  · rintro i hi (e | e)
    · omega
    · have := (hd _ e).1; omega
  · intro g hg
    rcases h3 g hg with e | e
    · exact hd g e
    · have hfb := lt_of_block hc.hf
      have hcb := lt_of_block hc.hc
      have hsz := hc.hs.size
      refine ⟨by omega, by omega, by omega, fun p hp => ?_⟩
      have := lt_of_block (hc.at' p hp).1
      omega
theorem WI.same {w' : World} (h : WI w0 fb cb a x P w) (k : Same w w') : WI w0 fb cb a x P w' := by
  obtain ⟨d, h1, h2, h3⟩ := h
  exact ⟨d, h1.keep (S := fun _ => False) k.keeps (fun x => x) (fun _ _ x => x), h2.same k, h3⟩
theorem WI.alloc (cs : Array Value) (T : TypeId) (h : WI w0 fb cb a x P w) : WI w0 fb cb a x ((w.heap.size, .cells cs T (0, 0)) :: P) (w.alloc (.cells cs T)) := by
  obtain ⟨d, h1, h2, h3⟩ := h
  refine ⟨d, h1.keep (S := fun _ => False) ((Bit.Keeps.refl _ w).alloc _) (fun x => x) (fun _ _ x => x), h2.alloc h1.lt cs T, fun g hg => ⟨(h3 g hg).1, (h3 g hg).2.1, (h3 g hg).2.2.1, ?_⟩⟩
  intro p hp
  rcases List.mem_cons.1 hp with rfl | hp
  · have := (h1.dlt g hg).1
    simp only; omega
  · exact (h3 g hg).2.2.2 p hp
theorem WI.drop {p : Nat × Obj} (h : WI w0 fb cb a x (p :: P) w) : WI w0 fb cb a x P w := by
  obtain ⟨d, h1, h2, h3⟩ := h
  exact ⟨d, h1, h2.drop, fun g hg => ⟨(h3 g hg).1, (h3 g hg).2.1, (h3 g hg).2.2.1, fun q hq => (h3 g hg).2.2.2 q (List.mem_cons_of_mem _ hq)⟩⟩
theorem WI.setBox {b : Nat} {v : Value} {T : TypeId} (u : Value) (h : WI w0 fb cb a x ((b, .cells #[v] T (0, 0)) :: P) w) : WI w0 fb cb a x ((b, .cells #[u] T (0, 0)) :: P) (w.setCell ⟨b, 0, none⟩ u) := by
  obtain ⟨d, h1, h2, h3⟩ := h
  have hb := h2.at' _ (List.mem_cons_self ..)
  have k : Bit.Keeps (fun i => i = b) w (w.setCell ⟨b, 0, none⟩ u) := Bit.Keeps.setCell (S := fun i => i = b) (Bit.Keeps.refl _ w) (p := ⟨b, 0, none⟩) (fun _ => rfl) u
  simp only at hb
  refine ⟨d, h1.keep k (fun e => hb.2.1 (Eq.symm e)) (fun g hg e => (h3 g hg).2.2.2 _ (List.mem_cons_self ..) (Eq.symm e)), h2.setBox u, fun g hg => ⟨(h3 g hg).1, (h3 g hg).2.1, (h3 g hg).2.2.1, ?_⟩⟩
  intro p hp
  rcases List.mem_cons.1 hp with rfl | hp
  · exact (h3 g hg).2.2.2 (b, .cells #[v] T (0, 0)) (List.mem_cons_self ..)
  · exact (h3 g hg).2.2.2 p (List.mem_cons_of_mem _ hp)
theorem WI.setT (h : WI w0 fb cb a x P w) : WI w0 fb cb a (x.1, { x.2 with t := -1 }) P (w.setCell ⟨fb, 2, none⟩ (.int .i64 (-1))) := by
  obtain ⟨d, h1, h2, h3⟩ := h
  have k : Bit.Keeps (fun i => i = fb) w (w.setCell ⟨fb, 2, none⟩ (.int .i64 (-1))) := Bit.Keeps.setCell (S := fun i => i = fb) (Bit.Keeps.refl _ w) (p := ⟨fb, 2, none⟩) (fun _ => rfl) _
  exact ⟨d, h1.keep k (fun e => h2.ne.1 e) (fun g hg e => (h3 g hg).2.1 e), h2.setF (i := 2) rfl h2.bd h2.sz, h3⟩
theorem cbne {d : Option Nat} (hc : Core w0 fb cb a 78 x.2 P w) (hd : ∀ g, d = some g → w0.heap.size ≤ g ∧ g ≠ fb ∧ g ≠ cb ∧ ∀ p ∈ P, p.1 ≠ g) : cb ≠ a ∧ d ≠ some cb := ⟨fun e => hc.ne.2.1 (Eq.symm e), fun e => (hd _ e).2.2.1 rfl⟩
theorem fbne {d : Option Nat} (hc : Core w0 fb cb a 78 x.2 P w) (hd : ∀ g, d = some g → w0.heap.size ≤ g ∧ g ≠ fb ∧ g ≠ cb ∧ ∀ p ∈ P, p.1 ≠ g) : fb ≠ a ∧ d ≠ some fb := ⟨fun e => hc.ne.1 (Eq.symm e), fun e => (hd _ e).2.1 rfl⟩
theorem pbne {d : Option Nat} {b : Nat} {o : Obj} (hc : Core w0 fb cb a 78 x.2 ((b, o) :: P) w) (hd : ∀ g, d = some g → w0.heap.size ≤ g ∧ g ≠ fb ∧ g ≠ cb ∧ ∀ p ∈ (b, o) :: P, p.1 ≠ g) : b ≠ a ∧ d ≠ some b :=
  ⟨(hc.at' _ (List.mem_cons_self ..)).2.1, fun e => (hd _ e).2.2.2 _ (List.mem_cons_self ..) rfl⟩
end
/-- What a writer does with a field. -/
def wU (wd n : Int) (st : List Nat × Int) : (List Nat × Int) × Int := (Bit.wuns wd n st, n)
def wS (wd n : Int) (st : List Nat × Int) : (List Nat × Int) × Int := (Bit.wsig wd n st, n)
def wT (m : Int) (s : ByteArray) (st : List Nat × Int) : (List Nat × Int) × ByteArray := (Bit.wtext m s st, s)
def coder (w0 : World) (fb cb a : Nat) : Coder (List Nat × Int) fb cb where
  inv := WI w0 fb cb a
  U := wU
  Sg := wS
  Tx := wT
  frm := fun ⟨_, _, h, _⟩ => h.hf
  bnd := fun ⟨_, _, h, _⟩ => h.bd
  mem := fun ⟨_, _, h, _⟩ p hp => (h.at' p hp).1
  same := fun h k => h.same k
  alloc := fun cs T h => h.alloc cs T
  drop := fun h => h.drop
  setBox := fun u h => h.setBox u
  setT := fun h => h.setT
  cU := fun {x P w} i wd hi ⟨d, h1, h2, h3⟩ => by
    refine (c1_any w a cb fb i x.1 d h1 wd _ h2.ccell (h2.fcell i hi).1 (cbne h2 h3) (fbne h2 h3)).mono fun e w' ⟨he, hk⟩ => ⟨he, ?_⟩
    unfold stU wU
    rw [set_get _ _ hi]
    exact WI.step d h2 h3 hk
  cB := fun {x b n P w} wd ⟨d, h1, h2, h3⟩ => by
    have hb := (h2.at' _ (List.mem_cons_self ..)).1
    simp only at hb
    exact (c1_any w a cb b 0 x.1 d h1 wd n h2.ccell (by simp [World.cell?, hb]) (cbne h2 h3) (pbne h2 h3)).mono fun e w' ⟨he, hk⟩ => ⟨he, WI.step d h2 h3 hk⟩
  cS := fun {x P w} wd ⟨d, h1, h2, h3⟩ =>
    (c2_any w a cb fb 7 x.1 d h1 wd _ h2.ccell (h2.fcell 7 (by decide)).1 (cbne h2 h3) (fbne h2 h3)).mono fun e w' ⟨he, hk⟩ => ⟨he, WI.step d h2 h3 hk⟩
  cT := fun {x P w} ⟨d, h1, h2, h3⟩ =>
    (c3_any w a cb fb 11 x.1 d h1 _ h2.sz h2.ccell h2.dcell.1 (cbne h2 h3) (fbne h2 h3)).mono fun e w' ⟨he, hk⟩ => ⟨he, WI.step d h2 h3 hk⟩
end Go.Proofs.Ytilpbbpdchbdfaa.Wc

/- Next of both packages. -/
import Derived.Test.YtffanehmlbiemaaHArgs
import Derived.Deep.RegionHeld3
namespace Go.Proofs.Ytffanehmlbiemaa
open Go.RowKit Go.Deep

def nextS (v f u : Int) (zs : List Int) (til : Int) (cs : List Int) : (Int × Int × Int × List Int) × Int :=
  if (hopB v f u zs && hopB ((v + 1) % 256) u til cs) = true then (((v + 1) % 256, u, til, cs), 0) else ((0, 0, 0, []), 1)
/-- What Next and its reference return. -/
def NextP (w : World) (R : (Int × Int × Int × List Int) × Int) (e : Ending) (w' : World) : Prop :=
  ∃ s, e = .returned (.tuple #[hopV R.1.1 R.1.2.1 R.1.2.2.1 s, .int .i64 R.2]) ∧ Same w w' ∧ w'.ownsRow w.heap.size 3 1 s R.1.2.2.2.length (icells R.1.2.2.2)
theorem keepH {w0 w w1 w2 : World} {a b c d : Value} {g : Nat} (h : w1.cell? ⟨g, 0, none⟩ = some a ∧ w1.cell? ⟨g, 1, none⟩ = some b ∧ w1.cell? ⟨g, 2, none⟩ = some c ∧ w1.cell? ⟨g, 3, none⟩ = some d ∧ Same w0 w1 ∧ Same w w1) (k : Same w1 w2) : w2.cell? ⟨g, 0, none⟩ = some a ∧ w2.cell? ⟨g, 1, none⟩ = some b ∧ w2.cell? ⟨g, 2, none⟩ = some c ∧ w2.cell? ⟨g, 3, none⟩ = some d ∧ Same w0 w2 ∧ Same w w2 := ⟨k.cell h.1, k.cell h.2.1, k.cell h.2.2.1, k.cell h.2.2.2.1, h.2.2.2.2.1.trans k, h.2.2.2.2.2.trans k⟩
set_option maxHeartbeats 2000000 in
set_option maxRecDepth 100000 in
theorem CloneI_own (w : World) (v : Value) (zs : List Int) (hv : IL w v zs) (hl : zs.length ≤ 1000) :
    Calls Try.prog 26 #[v] w fun e w' => ∃ v', e = .returned v' ∧ Same w w' ∧ w'.ownsRow w.heap.size 3 1 v' zs.length (icells zs) := by
  obtain ⟨i0, hi, hz0, hz1, hz2⟩ := info_parts Try.infoI
  have q22 : ∀ (w : World) (a : Option Addr) (n c n' c' : Nat), (binOp .eql 22 (.slice a n c) (.slice none n' c')).run Try.prog w = .ok (.bool a.isNone) w := fun w a n c n' c' => Lib.run_eql_slice_nil w _ _ a n c n' c' Try.underlying22
  have hshape : (∃ ad cap, v = .slice (some ad) zs.length cap ∧ ∀ j u, (icells zs)[j]? = some u → w.cell? (ad.add j) = some u) ∨ (∃ cap, v = .slice none 0 cap ∧ zs = []) := by
    rcases hv with ⟨b, off, cap, rfl, _, _, h0⟩ | ⟨ao, cap, rfl, rfl⟩
    · refine .inl ⟨_, _, rfl, fun j u hj => ?_⟩
      have hjl : j < zs.length := by have := (List.getElem?_eq_some_iff.1 hj).1; rw [icells_length] at this; omega
      rw [icells_get _ j hjl] at hj
      injection hj with hj
      subst hj
      have : (⟨b, off, none⟩ : Addr).add j = ⟨b, off + j, none⟩ := by
        unfold Addr.add; split
        · rename_i hz; rw [hz]; rfl
        · rfl
      rw [this]; exact h0 j hjl
    · cases ao with
      | none => exact .inr ⟨_, rfl, rfl⟩
      | some ad => exact .inl ⟨_, _, rfl, fun j u hj => by simp [icells] at hj⟩
  clear hv
  rcases hshape with ⟨ad, cap, rfl, ha⟩ | ⟨cap, rfl, rfl⟩
  · have A := Lib.hid ha; clear ha
    go_enter Try.func26, Try.ntmps26
    go_wp2_with (at_builtin; refine wpList_append_own _ rfl _ _ 22 rfl w.heap.size 3 i0 (.int .i64 0) 1 8 Try.underlying22 hi hz0 hz1 hz2 rfl (by decide) _ _ _ rfl (World.ownsRow_made w #[] 0 (Nat.le_refl _) (Nat.zero_le _) rfl) ad zs.length cap (icells zs) rfl ?qc1 ?qc2 ?qc3 ?qc4 ?qc5 ?qc6 ?_)
    case qc1 => exact icells_length zs
    case qc2 => intro j u hj; exact Lib.cell?_alloc_some _ (A.out j u hj)
    case qc3 => exact icells_one zs
    case qc4 => unfold maxLen; omega
    case qc5 => omega
    case qc6 => simp
    intro v' w1 hown hgrow hnil
    go_wp2
    go_ret
    refine ⟨v', rfl, ?_, by simpa using hown⟩
    have hb : Below w.heap.size w w1 := ((Below.refl _ w).alloc (Nat.le_refl _) _).grown hgrow (by simp) (by intro k hk; simp [Value.ownBlock] at hk; omega)
    exact Same.ofBelow hb
  · go_enter Try.func26, Try.ntmps26
    go_wp2
    go_ret
    exact ⟨_, rfl, Same.refl _, World.ownsRow_nil _ _ _ _⟩
theorem own_set {w : World} {base sz n B i : Nat} {T : TypeId} {v u : Value} {cs : List Value} (h : w.ownsRow base T sz v n cs) (hB : B < base) : (w.setCell ⟨B, i, none⟩ u).ownsRow base T sz v n cs := by
  refine ⟨h.1, ?_⟩
  rcases h.2 with h2 | ⟨g, cap, cur, h1, h2, h3, h4⟩
  · exact .inl h2
  · exact .inr ⟨g, cap, cur, h1, h2, by rw [Below.heap_setCell _ _ _ _ (by simp; omega)]; exact h3, h4⟩
theorem own_low {w : World} {base b' sz n : Nat} {T : TypeId} {v : Value} {cs : List Value} (h : w.ownsRow base T sz v n cs) (hb : b' ≤ base) : w.ownsRow b' T sz v n cs := by
  refine ⟨h.1, ?_⟩
  rcases h.2 with h2 | ⟨g, cap, cur, h1, h2, h3, h4⟩
  · exact .inl h2
  · exact .inr ⟨g, cap, cur, h1, by omega, h3, h4⟩
theorem rowH {w : World} {B : Nat} {a b c d : Value} {T : TypeId} (h : w.heap[B]? = some (.cells #[a, b, c, d] T (0, 0))) : w.cell? ⟨B, 0, none⟩ = some a ∧ w.cell? ⟨B, 1, none⟩ = some b ∧ w.cell? ⟨B, 2, none⟩ = some c ∧ w.cell? ⟨B, 3, none⟩ = some d ∧ w.frozen? ⟨B, 0, none⟩ = false ∧ w.frozen? ⟨B, 1, none⟩ = false ∧ w.frozen? ⟨B, 2, none⟩ = false ∧ w.frozen? ⟨B, 3, none⟩ = false :=
  ⟨by rw [cell_of_row w _ 0 _ _ _ h]; rfl, by rw [cell_of_row w _ 1 _ _ _ h]; rfl, by rw [cell_of_row w _ 2 _ _ _ h]; rfl, by rw [cell_of_row w _ 3 _ _ _ h]; rfl, frozen_of_row w _ 0 _ _ h, frozen_of_row w _ 1 _ _ h, frozen_of_row w _ 2 _ _ h, frozen_of_row w _ 3 _ _ h⟩
/-- A block that was made ahead of a call. -/
theorem newH {w2 w4 : World} {x y z : Int} {ad : Option Addr} {n cap : Nat} {T : TypeId} (h : Same (w2.alloc (.cells #[.int .i64 x, .int .i64 y, .int .i64 z, .slice ad n cap] T)).drew w4) : w4.cell? ⟨w2.heap.size, 0, none⟩ = some (.int .i64 x) ∧ w4.cell? ⟨w2.heap.size, 1, none⟩ = some (.int .i64 y) ∧ w4.cell? ⟨w2.heap.size, 2, none⟩ = some (.int .i64 z) ∧ w4.cell? ⟨w2.heap.size, 3, none⟩ = some (.slice ad n cap) ∧
    w4.frozen? ⟨w2.heap.size, 0, none⟩ = false ∧ w4.frozen? ⟨w2.heap.size, 1, none⟩ = false ∧ w4.frozen? ⟨w2.heap.size, 2, none⟩ = false ∧ w4.frozen? ⟨w2.heap.size, 3, none⟩ = false ∧ Same w2 w4 ∧ w2.heap.size < w4.heap.size := by
  have h' : Same (w2.alloc (.cells #[.int .i64 x, .int .i64 y, .int .i64 z, .slice ad n cap] T)) w4 := (Same.refl _).drew.trans h
  have k0 : (w2.alloc (.cells #[.int .i64 x, .int .i64 y, .int .i64 z, .slice ad n cap] T)).cell? ⟨w2.heap.size, 0, none⟩ = some (.int .i64 x) := by go_simp
  have k1 : (w2.alloc (.cells #[.int .i64 x, .int .i64 y, .int .i64 z, .slice ad n cap] T)).cell? ⟨w2.heap.size, 1, none⟩ = some (.int .i64 y) := by go_simp
  have k2 : (w2.alloc (.cells #[.int .i64 x, .int .i64 y, .int .i64 z, .slice ad n cap] T)).cell? ⟨w2.heap.size, 2, none⟩ = some (.int .i64 z) := by go_simp
  have k3 : (w2.alloc (.cells #[.int .i64 x, .int .i64 y, .int .i64 z, .slice ad n cap] T)).cell? ⟨w2.heap.size, 3, none⟩ = some (.slice ad n cap) := by go_simp
  have hf := fun i => frozen_of_row (w2.alloc (.cells #[.int .i64 x, .int .i64 y, .int .i64 z, .slice ad n cap] T)) w2.heap.size i _ _ (heap_alloc_new w2 _)
  refine ⟨h'.cell k0, h'.cell k1, h'.cell k2, h'.cell k3, (h'.frozen k0).trans (hf 0), (h'.frozen k1).trans (hf 1), (h'.frozen k2).trans (hf 2), (h'.frozen k3).trans (hf 3), ((Same.refl w2).alloc _).trans h', ?_⟩
  have := h'.size
  simp at this; omega
set_option maxHeartbeats 6400000 in
set_option maxRecDepth 100000 in
theorem Next_any (w : World) (v f u : Int) (s : Value) (zs : List Int) (til : Int) (s2 : Value) (cs : List Int) (h : IL w s zs) (h2 : IL w s2 cs) (hl : zs.length ≤ 1000) (hl2 : cs.length ≤ 1000) :
    Calls Try.prog 28 #[hopV v f u s, .int .i64 til, s2] w (NextP w (nextS v f u zs til cs)) := by
  have hck := fun (w1 : World) (hs : Same w w1) => Check_any v f u s zs w1 (h.same hs) hl
  unfold NextP
  by_cases h1 : hopB v f u zs = true
  · have HCL := Lib.hid (fun (w1 : World) (hs : Same w w1) => CloneI_own w1 s2 cs (h2.same hs) hl2)
    have HNV := Lib.hid (fun (w1 : World) => nextVersion_any v (hopB_of h1).1 w1)
    rw [show chkH v f u zs = 0 from if_pos h1] at hck
    have HCK := Lib.hid hck; clear hck
    obtain ⟨ao, cap, rfl⟩ := h.shape
    obtain ⟨a2, k2, rfl⟩ := h2.shape
    generalize zs.length = n at *
    have HS := Lib.hid (((Same.refl w).alloc (.cells #[.int .i64 v, .int .i64 f, .int .i64 u, .slice ao n cap] 24)).alloc (.cells #[.int .i64 0, .int .i64 0, .int .i64 0, .slice none 0 0] 24))
    have HRB := Lib.hid (fun (w1 : World) (hs : Same ((w.alloc (.cells #[.int .i64 v, .int .i64 f, .int .i64 u, .slice ao n cap] 24)).alloc (.cells #[.int .i64 0, .int .i64 0, .int .i64 0, .slice none 0 0] 24)) w1) => (show w1.heap[w.heap.size + 1]? = some (.cells #[.int .i64 0, .int .i64 0, .int .i64 0, .slice none 0 0] 24 (0, 0)) from hs.heap (by have := heap_alloc_new (w.alloc (.cells #[.int .i64 v, .int .i64 f, .int .i64 u, .slice ao n cap] 24)) (.cells #[.int .i64 0, .int .i64 0, .int .i64 0, .slice none 0 0] 24); rw [World.size_alloc] at this; exact this)))
    have HB := Lib.hid (fun (w1 : World) (hs : Same ((w.alloc (.cells #[.int .i64 v, .int .i64 f, .int .i64 u, .slice ao n cap] 24)).alloc (.cells #[.int .i64 0, .int .i64 0, .int .i64 0, .slice none 0 0] 24)) w1) => (show w1.cell? ⟨w.heap.size, 0, none⟩ = some (.int .i64 v) ∧ w1.cell? ⟨w.heap.size, 1, none⟩ = some (.int .i64 f) ∧ w1.cell? ⟨w.heap.size, 2, none⟩ = some (.int .i64 u) ∧ w1.cell? ⟨w.heap.size, 3, none⟩ = some (.slice ao n cap) from ⟨hs.cell (by go_simp), hs.cell (by go_simp), hs.cell (by go_simp), hs.cell (by go_simp)⟩))
    have HR := Lib.hid (show nextS v f u zs til cs = if hopB ((v + 1) % 256) u til cs = true then (((v + 1) % 256, u, til, cs), 0) else ((0, 0, 0, []), 1) from by unfold nextS; rw [h1, Bool.true_and])
    obtain ⟨⟨⟨R0, R1, R2, R3⟩, RE⟩, hR⟩ : ∃ R, nextS v f u zs til cs = R := ⟨_, rfl⟩
    rw [hR] at HR ⊢
    simp only
    clear h h2 h1 hR
    go_enter Try.func28, Try.ntmps28
    go_wp2_with (go_at_call 16; (with_reducible refine (HCK.out _ (by exact HS.out)).mono ?_); rintro e w2 ⟨rfl, hw⟩; obtain ⟨c0, c1, c2, c3⟩ := HB.out _ hw; have HW2 := Lib.hid hw; clear hw)
    have hs2 := (HS.out.trans HW2.out).drew
    have hr2 := (Same.refl w2).drew
    have hK2 := And.intro c0 (And.intro c1 (And.intro c2 (And.intro c3 (And.intro (HS.out.trans HW2.out) (Same.refl w2)))))
    go_region_held3 (fun w' => w'.cell? ⟨w.heap.size, 0, none⟩ = some (.int .i64 v) ∧ w'.cell? ⟨w.heap.size, 1, none⟩ = some (.int .i64 f) ∧ w'.cell? ⟨w.heap.size, 2, none⟩ = some (.int .i64 u) ∧ w'.cell? ⟨w.heap.size, 3, none⟩ = some (.slice ao n cap) ∧ Same w w' ∧ Same w2 w')
      (first | exact keepH hK2 hr2 | exact keepH (by assumption) (by assumption) | exact keepH hK2 (((Same.refl _).alloc _).drew) | exact keepH hK4 ((Same.refl _).alloc _) | exact keepH hK2 ((((n8.setCell (p := ⟨w2.heap.size, 0, none⟩) (Nat.le_refl _) _).setCell (p := ⟨w2.heap.size, 1, none⟩) (Nat.le_refl _) _).setCell (p := ⟨w2.heap.size, 2, none⟩) (Nat.le_refl _) _).setCell (p := ⟨w2.heap.size, 3, none⟩) (Nat.le_refl _) _) | assumption)
      (first
        | (go_at_call 48; refine (HNV.out _).mono ?_; rintro e w3 ⟨rfl, hw⟩; replace hw := hw.symm; subst hw)
        | (go_at_call 26; refine (HCL.out _ (by first | exact hs2 | exact (by assumption : _ ∧ _ ∧ _ ∧ _ ∧ Same w _ ∧ _).2.2.2.2.1)).mono ?_; rintro e w4 ⟨u4, rfl, hk4, hL4⟩; obtain ⟨a5, c5, he5⟩ := (IL.of_own (zs := cs) hL4).shape; subst he5; have hK4 := keepH (by first | exact keepH hK2 hr2 | assumption) hk4; first | (have nh := newH hk4; obtain ⟨n0, n1, n2, n3, n4, n5, n6, n7, n8, n9⟩ := nh) | skip)
        | fail)
    all_goals
      have hfin := (by assumption : _ ∧ _ ∧ _ ∧ _ ∧ Same w _ ∧ Same w2 _).2.2.2.2
      first
        | (have hown5 := own_set (i := 3) (u := .slice a5 cs.length c5) (own_set (i := 2) (u := .int .i64 til) (own_set (i := 1) (u := .int .i64 u) (own_set (i := 0) (u := .int .i64 ((v + 1) % 256)) hL4 (B := w2.heap.size) (by simp)) (B := w2.heap.size) (by simp)) (B := w2.heap.size) (by simp)) (B := w2.heap.size) (by simp)
           have k6 : ((((w4.setCell ⟨w2.heap.size, 0, none⟩ (.int .i64 ((v + 1) % 256))).setCell ⟨w2.heap.size, 1, none⟩ (.int .i64 u)).setCell ⟨w2.heap.size, 2, none⟩ (.int .i64 til)).setCell ⟨w2.heap.size, 3, none⟩ (.slice a5 cs.length c5)).cell? ⟨w2.heap.size, 0, none⟩ = some (.int .i64 ((v + 1) % 256)) := by go_simp
           have k7 : ((((w4.setCell ⟨w2.heap.size, 0, none⟩ (.int .i64 ((v + 1) % 256))).setCell ⟨w2.heap.size, 1, none⟩ (.int .i64 u)).setCell ⟨w2.heap.size, 2, none⟩ (.int .i64 til)).setCell ⟨w2.heap.size, 3, none⟩ (.slice a5 cs.length c5)).cell? ⟨w2.heap.size, 1, none⟩ = some (.int .i64 u) := by go_simp
           have k8 : ((((w4.setCell ⟨w2.heap.size, 0, none⟩ (.int .i64 ((v + 1) % 256))).setCell ⟨w2.heap.size, 1, none⟩ (.int .i64 u)).setCell ⟨w2.heap.size, 2, none⟩ (.int .i64 til)).setCell ⟨w2.heap.size, 3, none⟩ (.slice a5 cs.length c5)).cell? ⟨w2.heap.size, 2, none⟩ = some (.int .i64 til) := by go_simp
           have k9 : ((((w4.setCell ⟨w2.heap.size, 0, none⟩ (.int .i64 ((v + 1) % 256))).setCell ⟨w2.heap.size, 1, none⟩ (.int .i64 u)).setCell ⟨w2.heap.size, 2, none⟩ (.int .i64 til)).setCell ⟨w2.heap.size, 3, none⟩ (.slice a5 cs.length c5)).cell? ⟨w2.heap.size, 3, none⟩ = some (.slice a5 cs.length c5) := by go_simp
           generalize ((((w4.setCell ⟨w2.heap.size, 0, none⟩ (.int .i64 ((v + 1) % 256))).setCell ⟨w2.heap.size, 1, none⟩ (.int .i64 u)).setCell ⟨w2.heap.size, 2, none⟩ (.int .i64 til)).setCell ⟨w2.heap.size, 3, none⟩ (.slice a5 cs.length c5)) = w5 at *
           generalize w2.heap.size = B at *)
        | (have hown5 := own_same hL4 ((Same.refl w4).alloc (.cells #[.int .i64 ((v + 1) % 256), .int .i64 u, .int .i64 til, .slice a5 cs.length c5] 24))
           have k6 : (w4.alloc (.cells #[.int .i64 ((v + 1) % 256), .int .i64 u, .int .i64 til, .slice a5 cs.length c5] 24)).cell? ⟨w4.heap.size, 0, none⟩ = some (.int .i64 ((v + 1) % 256)) := by go_simp
           have k7 : (w4.alloc (.cells #[.int .i64 ((v + 1) % 256), .int .i64 u, .int .i64 til, .slice a5 cs.length c5] 24)).cell? ⟨w4.heap.size, 1, none⟩ = some (.int .i64 u) := by go_simp
           have k8 : (w4.alloc (.cells #[.int .i64 ((v + 1) % 256), .int .i64 u, .int .i64 til, .slice a5 cs.length c5] 24)).cell? ⟨w4.heap.size, 2, none⟩ = some (.int .i64 til) := by go_simp
           have k9 : (w4.alloc (.cells #[.int .i64 ((v + 1) % 256), .int .i64 u, .int .i64 til, .slice a5 cs.length c5] 24)).cell? ⟨w4.heap.size, 3, none⟩ = some (.slice a5 cs.length c5) := by go_simp
           generalize (w4.alloc (.cells #[.int .i64 ((v + 1) % 256), .int .i64 u, .int .i64 til, .slice a5 cs.length c5] 24)) = w5 at *
           generalize w4.heap.size = B at *)
      clear hK4 hK2 hs2 hr2 c0 c1 c2 c3
      obtain ⟨q1, q2⟩ := hfin
      have HIL := Lib.hid (IL.of_own (zs := cs) hown5)
      have HOW := Lib.hid (own_low (b' := w.heap.size + 2) hown5 (by have := HW2.out.size; simp at this ⊢; omega))
      have HQ1 := Lib.hid q1; clear q1
      have HQ2 := Lib.hid q2; clear q2
      have hck5 := Check_any ((v + 1) % 256) u til _ cs w5 HIL.out hl2
      by_cases h5 : hopB ((v + 1) % 256) u til cs = true
      · rw [show chkH ((v + 1) % 256) u til cs = 0 from if_pos h5] at hck5
        have HC5 := Lib.hid hck5; clear hck5
        have hr := HR.out
        rw [if_pos h5] at hr
        injection hr with hr1 hr2
        injection hr1 with r0 hr3
        injection hr3 with r1 hr4
        injection hr4 with r2' r3
        have hRR : (R0, R1, R2, R3) = ((v + 1) % 256, u, til, cs) := by rw [r0, r1, r2', r3]
        clear hRR
        subst r0 hr2
        obtain rfl : u = R1 := r1.symm
        obtain rfl : til = R2 := r2'.symm
        obtain rfl : cs = R3 := r3.symm
        clear HR h5
        go_wp2_with (go_at_call 16; (with_reducible refine HC5.out.mono ?_); rintro e w6 ⟨rfl, hw⟩; have HW6 := Lib.hid hw; replace k6 := hw.cell k6; replace k7 := hw.cell k7; replace k8 := hw.cell k8; replace k9 := hw.cell k9; obtain ⟨m0, m1, m2, m3, m4, m5, m6, m7⟩ := rowH (HRB.out _ (HW2.out.trans (HQ2.out.trans hw))); clear hw)
        have e0 : ((((w6.setCell ⟨w.heap.size + 1, 0, none⟩ (.int .i64 ((v + 1) % 256))).setCell ⟨w.heap.size + 1, 1, none⟩ (.int .i64 u)).setCell ⟨w.heap.size + 1, 2, none⟩ (.int .i64 til)).setCell ⟨w.heap.size + 1, 3, none⟩ (.slice a5 cs.length c5)).cell? ⟨w.heap.size + 1, 0, none⟩ = some (.int .i64 ((v + 1) % 256)) := by go_simp
        have e1 : ((((w6.setCell ⟨w.heap.size + 1, 0, none⟩ (.int .i64 ((v + 1) % 256))).setCell ⟨w.heap.size + 1, 1, none⟩ (.int .i64 u)).setCell ⟨w.heap.size + 1, 2, none⟩ (.int .i64 til)).setCell ⟨w.heap.size + 1, 3, none⟩ (.slice a5 cs.length c5)).cell? ⟨w.heap.size + 1, 1, none⟩ = some (.int .i64 u) := by go_simp
        have e2 : ((((w6.setCell ⟨w.heap.size + 1, 0, none⟩ (.int .i64 ((v + 1) % 256))).setCell ⟨w.heap.size + 1, 1, none⟩ (.int .i64 u)).setCell ⟨w.heap.size + 1, 2, none⟩ (.int .i64 til)).setCell ⟨w.heap.size + 1, 3, none⟩ (.slice a5 cs.length c5)).cell? ⟨w.heap.size + 1, 2, none⟩ = some (.int .i64 til) := by go_simp
        have e3 : ((((w6.setCell ⟨w.heap.size + 1, 0, none⟩ (.int .i64 ((v + 1) % 256))).setCell ⟨w.heap.size + 1, 1, none⟩ (.int .i64 u)).setCell ⟨w.heap.size + 1, 2, none⟩ (.int .i64 til)).setCell ⟨w.heap.size + 1, 3, none⟩ (.slice a5 cs.length c5)).cell? ⟨w.heap.size + 1, 3, none⟩ = some (.slice a5 cs.length c5) := by go_simp
        have hsm : Same w ((((w6.setCell ⟨w.heap.size + 1, 0, none⟩ (.int .i64 ((v + 1) % 256))).setCell ⟨w.heap.size + 1, 1, none⟩ (.int .i64 u)).setCell ⟨w.heap.size + 1, 2, none⟩ (.int .i64 til)).setCell ⟨w.heap.size + 1, 3, none⟩ (.slice a5 cs.length c5)) := (((((HQ1.out.trans HW6.out).setCell (p := ⟨w.heap.size + 1, 0, none⟩) (by simp) _).setCell (p := ⟨w.heap.size + 1, 1, none⟩) (by simp) _).setCell (p := ⟨w.heap.size + 1, 2, none⟩) (by simp) _).setCell (p := ⟨w.heap.size + 1, 3, none⟩) (by simp) _)
        have hil : World.ownsRow ((((w6.setCell ⟨w.heap.size + 1, 0, none⟩ (.int .i64 ((v + 1) % 256))).setCell ⟨w.heap.size + 1, 1, none⟩ (.int .i64 u)).setCell ⟨w.heap.size + 1, 2, none⟩ (.int .i64 til)).setCell ⟨w.heap.size + 1, 3, none⟩ (.slice a5 cs.length c5)) w.heap.size 3 1 (.slice a5 cs.length c5) cs.length (icells cs) := own_low (own_set (i := 3) (own_set (i := 2) (own_set (i := 1) (own_set (i := 0) (own_same HOW.out HW6.out) (B := w.heap.size + 1) (by omega)) (B := w.heap.size + 1) (by omega)) (B := w.heap.size + 1) (by omega)) (B := w.heap.size + 1) (by omega)) (by omega)
        generalize ((((w6.setCell ⟨w.heap.size + 1, 0, none⟩ (.int .i64 ((v + 1) % 256))).setCell ⟨w.heap.size + 1, 1, none⟩ (.int .i64 u)).setCell ⟨w.heap.size + 1, 2, none⟩ (.int .i64 til)).setCell ⟨w.heap.size + 1, 3, none⟩ (.slice a5 cs.length c5)) = W at *
        refine bodyPost_ret (v := .tuple #[.agg #[.int .i64 ((v + 1) % 256), .int .i64 u, .int .i64 til, .slice a5 cs.length c5], .int .i64 0]) ?_ rfl ⟨_, rfl, hsm, hil⟩
        simp [results, Try.f28, go_sem, e0, e1, e2, e3]
      · rw [show chkH ((v + 1) % 256) u til cs = 1 from if_neg h5] at hck5
        have HC5 := Lib.hid hck5; clear hck5
        have hr := HR.out
        rw [if_neg h5] at hr
        injection hr with hr1 hr2
        injection hr1 with r0 hr3
        injection hr3 with r1 hr4
        injection hr4 with r2' r3
        subst r0 r1 r2' r3 hr2
        clear HR h5
        go_wp2_with (go_at_call 16; (with_reducible refine HC5.out.mono ?_); rintro e w6 ⟨rfl, hw⟩; have HW6 := Lib.hid hw; replace k6 := hw.cell k6; replace k7 := hw.cell k7; replace k8 := hw.cell k8; replace k9 := hw.cell k9; obtain ⟨m0, m1, m2, m3, m4, m5, m6, m7⟩ := rowH (HRB.out _ (HW2.out.trans (HQ2.out.trans hw))); clear hw)
        have e0 : ((((w6.setCell ⟨w.heap.size + 1, 0, none⟩ (.int .i64 0)).setCell ⟨w.heap.size + 1, 1, none⟩ (.int .i64 0)).setCell ⟨w.heap.size + 1, 2, none⟩ (.int .i64 0)).setCell ⟨w.heap.size + 1, 3, none⟩ (.slice none 0 0)).cell? ⟨w.heap.size + 1, 0, none⟩ = some (.int .i64 0) := by go_simp
        have e1 : ((((w6.setCell ⟨w.heap.size + 1, 0, none⟩ (.int .i64 0)).setCell ⟨w.heap.size + 1, 1, none⟩ (.int .i64 0)).setCell ⟨w.heap.size + 1, 2, none⟩ (.int .i64 0)).setCell ⟨w.heap.size + 1, 3, none⟩ (.slice none 0 0)).cell? ⟨w.heap.size + 1, 1, none⟩ = some (.int .i64 0) := by go_simp
        have e2 : ((((w6.setCell ⟨w.heap.size + 1, 0, none⟩ (.int .i64 0)).setCell ⟨w.heap.size + 1, 1, none⟩ (.int .i64 0)).setCell ⟨w.heap.size + 1, 2, none⟩ (.int .i64 0)).setCell ⟨w.heap.size + 1, 3, none⟩ (.slice none 0 0)).cell? ⟨w.heap.size + 1, 2, none⟩ = some (.int .i64 0) := by go_simp
        have e3 : ((((w6.setCell ⟨w.heap.size + 1, 0, none⟩ (.int .i64 0)).setCell ⟨w.heap.size + 1, 1, none⟩ (.int .i64 0)).setCell ⟨w.heap.size + 1, 2, none⟩ (.int .i64 0)).setCell ⟨w.heap.size + 1, 3, none⟩ (.slice none 0 0)).cell? ⟨w.heap.size + 1, 3, none⟩ = some (.slice none 0 0) := by go_simp
        have hsm : Same w ((((w6.setCell ⟨w.heap.size + 1, 0, none⟩ (.int .i64 0)).setCell ⟨w.heap.size + 1, 1, none⟩ (.int .i64 0)).setCell ⟨w.heap.size + 1, 2, none⟩ (.int .i64 0)).setCell ⟨w.heap.size + 1, 3, none⟩ (.slice none 0 0)) := (((((HQ1.out.trans HW6.out).setCell (p := ⟨w.heap.size + 1, 0, none⟩) (by simp) _).setCell (p := ⟨w.heap.size + 1, 1, none⟩) (by simp) _).setCell (p := ⟨w.heap.size + 1, 2, none⟩) (by simp) _).setCell (p := ⟨w.heap.size + 1, 3, none⟩) (by simp) _)
        have hil : World.ownsRow ((((w6.setCell ⟨w.heap.size + 1, 0, none⟩ (.int .i64 0)).setCell ⟨w.heap.size + 1, 1, none⟩ (.int .i64 0)).setCell ⟨w.heap.size + 1, 2, none⟩ (.int .i64 0)).setCell ⟨w.heap.size + 1, 3, none⟩ (.slice none 0 0)) w.heap.size 3 1 (.slice none 0 0) ([] : List Int).length (icells []) := World.ownsRow_nil _ _ _ _
        generalize ((((w6.setCell ⟨w.heap.size + 1, 0, none⟩ (.int .i64 0)).setCell ⟨w.heap.size + 1, 1, none⟩ (.int .i64 0)).setCell ⟨w.heap.size + 1, 2, none⟩ (.int .i64 0)).setCell ⟨w.heap.size + 1, 3, none⟩ (.slice none 0 0)) = W at *
        refine bodyPost_ret (v := .tuple #[.agg #[.int .i64 0, .int .i64 0, .int .i64 0, .slice none 0 0], .int .i64 1]) ?_ rfl ⟨_, rfl, hsm, hil⟩
        simp [results, Try.f28, go_sem, e0, e1, e2, e3]
  · rw [show chkH v f u zs = 1 from if_neg h1] at hck
    rw [show nextS v f u zs til cs = ((0, 0, 0, []), 1) from by unfold nextS; rw [if_neg (by simp [h1])]]
    have HCK := Lib.hid hck; clear hck
    obtain ⟨ao, cap, rfl⟩ := h.shape
    obtain ⟨a2, k2, rfl⟩ := h2.shape
    clear h h2 h1
    generalize zs.length = n at *
    generalize cs.length = m at *
    have HS := Lib.hid (((Same.refl w).alloc (.cells #[.int .i64 v, .int .i64 f, .int .i64 u, .slice ao n cap] 24)).alloc (.cells #[.int .i64 0, .int .i64 0, .int .i64 0, .slice none 0 0] 24))
    have HRB := Lib.hid (fun (w1 : World) (hs : Same ((w.alloc (.cells #[.int .i64 v, .int .i64 f, .int .i64 u, .slice ao n cap] 24)).alloc (.cells #[.int .i64 0, .int .i64 0, .int .i64 0, .slice none 0 0] 24)) w1) => (show w1.heap[w.heap.size + 1]? = some (.cells #[.int .i64 0, .int .i64 0, .int .i64 0, .slice none 0 0] 24 (0, 0)) from hs.heap (by have := heap_alloc_new (w.alloc (.cells #[.int .i64 v, .int .i64 f, .int .i64 u, .slice ao n cap] 24)) (.cells #[.int .i64 0, .int .i64 0, .int .i64 0, .slice none 0 0] 24); rw [World.size_alloc] at this; exact this)))
    go_enter Try.func28, Try.ntmps28
    go_wp2_with (go_at_call 16; (with_reducible refine (HCK.out _ (by exact HS.out)).mono ?_); rintro e w2 ⟨rfl, hw⟩; have HW2 := Lib.hid hw; obtain ⟨m0, m1, m2, m3, m4, m5, m6, m7⟩ := rowH (HRB.out _ hw); clear hw)
    have e0 : ((((w2.setCell ⟨w.heap.size + 1, 0, none⟩ (.int .i64 0)).setCell ⟨w.heap.size + 1, 1, none⟩ (.int .i64 0)).setCell ⟨w.heap.size + 1, 2, none⟩ (.int .i64 0)).setCell ⟨w.heap.size + 1, 3, none⟩ (.slice none 0 0)).cell? ⟨w.heap.size + 1, 0, none⟩ = some (.int .i64 0) := by go_simp
    have e1 : ((((w2.setCell ⟨w.heap.size + 1, 0, none⟩ (.int .i64 0)).setCell ⟨w.heap.size + 1, 1, none⟩ (.int .i64 0)).setCell ⟨w.heap.size + 1, 2, none⟩ (.int .i64 0)).setCell ⟨w.heap.size + 1, 3, none⟩ (.slice none 0 0)).cell? ⟨w.heap.size + 1, 1, none⟩ = some (.int .i64 0) := by go_simp
    have e2 : ((((w2.setCell ⟨w.heap.size + 1, 0, none⟩ (.int .i64 0)).setCell ⟨w.heap.size + 1, 1, none⟩ (.int .i64 0)).setCell ⟨w.heap.size + 1, 2, none⟩ (.int .i64 0)).setCell ⟨w.heap.size + 1, 3, none⟩ (.slice none 0 0)).cell? ⟨w.heap.size + 1, 2, none⟩ = some (.int .i64 0) := by go_simp
    have e3 : ((((w2.setCell ⟨w.heap.size + 1, 0, none⟩ (.int .i64 0)).setCell ⟨w.heap.size + 1, 1, none⟩ (.int .i64 0)).setCell ⟨w.heap.size + 1, 2, none⟩ (.int .i64 0)).setCell ⟨w.heap.size + 1, 3, none⟩ (.slice none 0 0)).cell? ⟨w.heap.size + 1, 3, none⟩ = some (.slice none 0 0) := by go_simp
    have hsm : Same w ((((w2.setCell ⟨w.heap.size + 1, 0, none⟩ (.int .i64 0)).setCell ⟨w.heap.size + 1, 1, none⟩ (.int .i64 0)).setCell ⟨w.heap.size + 1, 2, none⟩ (.int .i64 0)).setCell ⟨w.heap.size + 1, 3, none⟩ (.slice none 0 0)) := (((((HS.out.trans HW2.out).setCell (p := ⟨w.heap.size + 1, 0, none⟩) (by simp) _).setCell (p := ⟨w.heap.size + 1, 1, none⟩) (by simp) _).setCell (p := ⟨w.heap.size + 1, 2, none⟩) (by simp) _).setCell (p := ⟨w.heap.size + 1, 3, none⟩) (by simp) _)
    have hil : World.ownsRow ((((w2.setCell ⟨w.heap.size + 1, 0, none⟩ (.int .i64 0)).setCell ⟨w.heap.size + 1, 1, none⟩ (.int .i64 0)).setCell ⟨w.heap.size + 1, 2, none⟩ (.int .i64 0)).setCell ⟨w.heap.size + 1, 3, none⟩ (.slice none 0 0)) w.heap.size 3 1 (.slice none 0 0) ([] : List Int).length (icells []) := World.ownsRow_nil _ _ _ _
    generalize ((((w2.setCell ⟨w.heap.size + 1, 0, none⟩ (.int .i64 0)).setCell ⟨w.heap.size + 1, 1, none⟩ (.int .i64 0)).setCell ⟨w.heap.size + 1, 2, none⟩ (.int .i64 0)).setCell ⟨w.heap.size + 1, 3, none⟩ (.slice none 0 0)) = W at *
    refine bodyPost_ret (v := .tuple #[.agg #[.int .i64 0, .int .i64 0, .int .i64 0, .slice none 0 0], .int .i64 1]) ?_ rfl ⟨_, rfl, hsm, hil⟩
    simp [results, Try.f28, go_sem, e0, e1, e2, e3]
end Go.Proofs.Ytffanehmlbiemaa

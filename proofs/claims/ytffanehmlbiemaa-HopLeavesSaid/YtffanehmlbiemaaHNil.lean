/- Next of the reference, of no channels. -/
import Derived.Test.YtffanehmlbiemaaHNext2
import Derived.Deep.Upon
namespace Go.Proofs.Ytffanehmlbiemaa
open Go.RowKit Go.Deep

theorem step_append_none {P : Program} (w : World) {ops : Array Oper} {o : Oper} {a : Act} {K : Act → World → Prop} {Q : Exit → Act → World → Prop} {E : Prop} (hgd : o.guard = none) (s x : Operand) (t : TypeId)
    (ho : o.op = .call { callee := .builtin .append, args := #[s, x], argTypes := #[t, t] }) (e : TypeId) (i : TypeInfo) (ht : P.underlying t = some (.slice e)) (hi : P.info? e = some i)
    (b : Option Addr) (n c : Nat) (hn : n ≤ c) (hs : a.eval s = .slice b n c) (ao : Option Addr) (k : Nat) (hx : a.eval x = .slice ao 0 k) (h : K (a.put o.dst (.slice b n c)) w) :
    if Region.wanted o (yielded ops a.tmps) = true then Oper.wp P o a w K Q else E := by
  have hw : Region.wanted o (yielded ops a.tmps) = true := by simp [Region.wanted, hgd]
  rw [if_pos hw]
  have hsrc : Src P i.size t (.slice ao 0 k) 0 [] w := by
    cases ao with
    | none => exact Src.ofNil w ht k
    | some ad => exact Src.ofSlice w ht ad 0 k [] (by simp) (fun j u h => by simp at h) (by simp)
  have hr := run_append_nothing (P := P) w t t o.type e i ht hi b n c hn (.slice ao 0 k) hsrc
  unfold Oper.wp execOp
  simp only [ho, resolve, invoke, builtin, Sem.run_bind, Sem.run_pure, Result.andThen_ok, List.map_toArray, List.map_cons, List.map_nil, hs, hx, hr]
  exact h
theorem nextS_nil (v f u : Int) (zs : List Int) (til : Int) : nextS v f u zs til [] = ((0, 0, 0, []), 1) := by
  unfold nextS
  rw [if_neg]
  rw [Bool.and_eq_true]
  rintro ⟨_, h⟩
  have := (hopB_of h).2.2.2.2
  exact absurd this (by decide)
set_option maxHeartbeats 6400000 in
set_option maxRecDepth 100000 in
theorem Next2_nil (w : World) (v f u : Int) (s : Value) (zs : List Int) (til : Int) (ao2 : Option Addr) (k2 : Nat) (h : IL w s zs) (hl : zs.length ≤ 1000) :
    Calls Try.prog 29 #[hopV v f u s, .int .i64 til, .slice ao2 0 k2] w (NextP w ((0, 0, 0, []), 1)) := by
  have hck := fun (w1 : World) (hs : Same w w1) => Check2_any v f u s zs w1 (h.same hs) hl
  obtain ⟨i0, hi, hz0, hz1, hz2⟩ := info_parts Try.infoI
  unfold NextP
  by_cases h1 : hopB v f u zs = true
  · rw [show chkH v f u zs = 0 from if_pos h1] at hck
    have HCK := Lib.hid hck; clear hck
    obtain ⟨ao, cap, rfl⟩ := h.shape
    generalize zs.length = n at *
    have HS := Lib.hid (((Same.refl w).alloc (.cells #[.int .i64 v, .int .i64 f, .int .i64 u, .slice ao n cap] 24)).alloc (.cells #[.int .i64 0, .int .i64 0, .int .i64 0, .slice none 0 0] 24))
    have HRB := Lib.hid (fun (w1 : World) (hs : Same ((w.alloc (.cells #[.int .i64 v, .int .i64 f, .int .i64 u, .slice ao n cap] 24)).alloc (.cells #[.int .i64 0, .int .i64 0, .int .i64 0, .slice none 0 0] 24)) w1) => (show w1.heap[w.heap.size + 1]? = some (.cells #[.int .i64 0, .int .i64 0, .int .i64 0, .slice none 0 0] 24 (0, 0)) from hs.heap (by have := heap_alloc_new (w.alloc (.cells #[.int .i64 v, .int .i64 f, .int .i64 u, .slice ao n cap] 24)) (.cells #[.int .i64 0, .int .i64 0, .int .i64 0, .slice none 0 0] 24); rw [World.size_alloc] at this; exact this)))
    have HB := Lib.hid (fun (w1 : World) (hs : Same ((w.alloc (.cells #[.int .i64 v, .int .i64 f, .int .i64 u, .slice ao n cap] 24)).alloc (.cells #[.int .i64 0, .int .i64 0, .int .i64 0, .slice none 0 0] 24)) w1) => (show w1.cell? ⟨w.heap.size, 0, none⟩ = some (.int .i64 v) ∧ w1.cell? ⟨w.heap.size, 1, none⟩ = some (.int .i64 f) ∧ w1.cell? ⟨w.heap.size, 2, none⟩ = some (.int .i64 u) ∧ w1.cell? ⟨w.heap.size, 3, none⟩ = some (.slice ao n cap) from ⟨hs.cell (by go_simp), hs.cell (by go_simp), hs.cell (by go_simp), hs.cell (by go_simp)⟩))
    clear h
    go_enter Try.func29, Try.ntmps29
    go_wp2_with (go_at_call 17; (with_reducible refine (HCK.out _ (by exact HS.out)).mono ?_); rintro e w2 ⟨rfl, hw⟩; obtain ⟨c0, c1, c2, c3⟩ := HB.out _ hw; have HW2 := Lib.hid hw; clear hw)
    have hs2 := (HS.out.trans HW2.out).drew
    have hr2 := (Same.refl w2).drew
    have hK2 := And.intro c0 (And.intro c1 (And.intro c2 (And.intro c3 (And.intro (HS.out.trans HW2.out) (Same.refl w2)))))
    go_region_held3 (fun w' => w'.cell? ⟨w.heap.size, 0, none⟩ = some (.int .i64 v) ∧ w'.cell? ⟨w.heap.size, 1, none⟩ = some (.int .i64 f) ∧ w'.cell? ⟨w.heap.size, 2, none⟩ = some (.int .i64 u) ∧ w'.cell? ⟨w.heap.size, 3, none⟩ = some (.slice ao n cap) ∧ Same w w' ∧ Same w2 w')
      (first
        | exact keepH hK2 hr2
        | exact keepH hK2 hs6
        | exact keepH hK2 (((Same.refl _).alloc _).drew)
        | exact keepH hK2 ((((Same.refl _).alloc _).alloc _).drew)
        | exact keepH hK2 (hs6.alloc _)
        | exact keepH hK2 ((((hs6.setCell (p := ⟨w2.heap.size, 0, none⟩) (by simp) _).setCell (p := ⟨w2.heap.size, 1, none⟩) (by simp) _).setCell (p := ⟨w2.heap.size, 2, none⟩) (by simp) _).setCell (p := ⟨w2.heap.size, 3, none⟩) (by simp) _)
        | exact keepH hK2 ((((hs6.setCell (p := ⟨w2.heap.size + 1, 0, none⟩) (by simp) _).setCell (p := ⟨w2.heap.size + 1, 1, none⟩) (by simp) _).setCell (p := ⟨w2.heap.size + 1, 2, none⟩) (by simp) _).setCell (p := ⟨w2.heap.size + 1, 3, none⟩) (by simp) _)
        | assumption)
      (first
        | (refine step_append_none _ rfl (.tmp 20) (.tmp 21) 22 rfl 3 i0 Try.underlying22 hi _ 0 0 (Nat.le_refl _) rfl ao2 k2 rfl ?_)
        | fail)
    all_goals
      have hmod : (IntKind.i64.wrap (v + 1)).tmod 256 = (v + 1) % 256 := tmodH (hopB_of h1).1
      have hfin := (by assumption : _ ∧ _ ∧ _ ∧ _ ∧ Same w _ ∧ Same w2 _).2.2.2.2
      rw [hmod] at hfin ⊢
      clear hmod
      first
        | (have hchk : Same w2 (((w2.alloc (.cells #[] 3)).alloc (.cells #[.int .i64 ((v + 1) % 256), .int .i64 u, .int .i64 til, .slice (some ⟨w2.heap.size, 0, none⟩) 0 0] 24)).drew) := by with_reducible exact hfin.2
           clear hchk
           have k6 : ((w2.alloc (.cells #[] 3)).alloc (.cells #[.int .i64 ((v + 1) % 256), .int .i64 u, .int .i64 til, .slice (some ⟨w2.heap.size, 0, none⟩) 0 0] 24)).drew.cell? ⟨w2.heap.size + 1, 0, none⟩ = some (.int .i64 ((v + 1) % 256)) := by go_simp
           have k7 : ((w2.alloc (.cells #[] 3)).alloc (.cells #[.int .i64 ((v + 1) % 256), .int .i64 u, .int .i64 til, .slice (some ⟨w2.heap.size, 0, none⟩) 0 0] 24)).drew.cell? ⟨w2.heap.size + 1, 1, none⟩ = some (.int .i64 u) := by go_simp
           have k8 : ((w2.alloc (.cells #[] 3)).alloc (.cells #[.int .i64 ((v + 1) % 256), .int .i64 u, .int .i64 til, .slice (some ⟨w2.heap.size, 0, none⟩) 0 0] 24)).drew.cell? ⟨w2.heap.size + 1, 2, none⟩ = some (.int .i64 til) := by go_simp
           have k9 : ((w2.alloc (.cells #[] 3)).alloc (.cells #[.int .i64 ((v + 1) % 256), .int .i64 u, .int .i64 til, .slice (some ⟨w2.heap.size, 0, none⟩) 0 0] 24)).drew.cell? ⟨w2.heap.size + 1, 3, none⟩ = some (.slice (some ⟨w2.heap.size, 0, none⟩) 0 0) := by go_simp
           generalize ((w2.alloc (.cells #[] 3)).alloc (.cells #[.int .i64 ((v + 1) % 256), .int .i64 u, .int .i64 til, .slice (some ⟨w2.heap.size, 0, none⟩) 0 0] 24)).drew = w5 at *
           have HIL := Lib.hid (show IL w5 (.slice (some ⟨w2.heap.size, 0, none⟩) 0 0) [] from .inr ⟨_, _, rfl, rfl⟩)
           generalize hSV : Value.slice (some ⟨w2.heap.size, 0, none⟩) 0 0 = SV at *
           clear hSV
           generalize w2.heap.size + 1 = B at *)
        | (have hchk : Same w2 (((w2.alloc (.cells #[.int .i64 ((v + 1) % 256), .int .i64 u, .int .i64 til, .slice (some ⟨w2.heap.size + 1, 0, none⟩) 0 0] 24)).alloc (.cells #[] 3)).drew) := by with_reducible exact hfin.2
           clear hchk
           have k6 : ((w2.alloc (.cells #[.int .i64 ((v + 1) % 256), .int .i64 u, .int .i64 til, .slice (some ⟨w2.heap.size + 1, 0, none⟩) 0 0] 24)).alloc (.cells #[] 3)).drew.cell? ⟨w2.heap.size, 0, none⟩ = some (.int .i64 ((v + 1) % 256)) := by go_simp
           have k7 : ((w2.alloc (.cells #[.int .i64 ((v + 1) % 256), .int .i64 u, .int .i64 til, .slice (some ⟨w2.heap.size + 1, 0, none⟩) 0 0] 24)).alloc (.cells #[] 3)).drew.cell? ⟨w2.heap.size, 1, none⟩ = some (.int .i64 u) := by go_simp
           have k8 : ((w2.alloc (.cells #[.int .i64 ((v + 1) % 256), .int .i64 u, .int .i64 til, .slice (some ⟨w2.heap.size + 1, 0, none⟩) 0 0] 24)).alloc (.cells #[] 3)).drew.cell? ⟨w2.heap.size, 2, none⟩ = some (.int .i64 til) := by go_simp
           have k9 : ((w2.alloc (.cells #[.int .i64 ((v + 1) % 256), .int .i64 u, .int .i64 til, .slice (some ⟨w2.heap.size + 1, 0, none⟩) 0 0] 24)).alloc (.cells #[] 3)).drew.cell? ⟨w2.heap.size, 3, none⟩ = some (.slice (some ⟨w2.heap.size + 1, 0, none⟩) 0 0) := by go_simp
           generalize ((w2.alloc (.cells #[.int .i64 ((v + 1) % 256), .int .i64 u, .int .i64 til, .slice (some ⟨w2.heap.size + 1, 0, none⟩) 0 0] 24)).alloc (.cells #[] 3)).drew = w5 at *
           have HIL := Lib.hid (show IL w5 (.slice (some ⟨w2.heap.size + 1, 0, none⟩) 0 0) [] from .inr ⟨_, _, rfl, rfl⟩)
           generalize hSV : Value.slice (some ⟨w2.heap.size + 1, 0, none⟩) 0 0 = SV at *
           clear hSV
           generalize w2.heap.size = B at *)
      clear h1 hK2 hs2 hr2 c0 c1 c2 c3
      obtain ⟨q1, q2⟩ := hfin
      have HQ1 := Lib.hid q1; clear q1
      have HQ2 := Lib.hid q2; clear q2
      have hck5 := Check2_any ((v + 1) % 256) u til SV [] w5 HIL.out (by simp)
      have h5 : ¬ hopB ((v + 1) % 256) u til [] = true := fun h => absurd (hopB_of h).2.2.2.2 (by decide)
      rw [show chkH ((v + 1) % 256) u til [] = 1 from if_neg h5] at hck5
      have HC5 := Lib.hid hck5; clear hck5
      clear h5
      go_wp2_with (go_at_call 17; (with_reducible refine HC5.out.mono ?_); rintro e w7 ⟨rfl, hw⟩; have HW7 := Lib.hid hw; replace k6 := hw.cell k6; replace k7 := hw.cell k7; replace k8 := hw.cell k8; replace k9 := hw.cell k9; obtain ⟨m0, m1, m2, m3, m4, m5, m6, m7⟩ := rowH (HRB.out _ (HW2.out.trans (HQ2.out.trans hw))); clear hw)
      have e0 : ((((w7.setCell ⟨w.heap.size + 1, 0, none⟩ (.int .i64 0)).setCell ⟨w.heap.size + 1, 1, none⟩ (.int .i64 0)).setCell ⟨w.heap.size + 1, 2, none⟩ (.int .i64 0)).setCell ⟨w.heap.size + 1, 3, none⟩ (.slice none 0 0)).cell? ⟨w.heap.size + 1, 0, none⟩ = some (.int .i64 0) := by go_simp
      have e1 : ((((w7.setCell ⟨w.heap.size + 1, 0, none⟩ (.int .i64 0)).setCell ⟨w.heap.size + 1, 1, none⟩ (.int .i64 0)).setCell ⟨w.heap.size + 1, 2, none⟩ (.int .i64 0)).setCell ⟨w.heap.size + 1, 3, none⟩ (.slice none 0 0)).cell? ⟨w.heap.size + 1, 1, none⟩ = some (.int .i64 0) := by go_simp
      have e2 : ((((w7.setCell ⟨w.heap.size + 1, 0, none⟩ (.int .i64 0)).setCell ⟨w.heap.size + 1, 1, none⟩ (.int .i64 0)).setCell ⟨w.heap.size + 1, 2, none⟩ (.int .i64 0)).setCell ⟨w.heap.size + 1, 3, none⟩ (.slice none 0 0)).cell? ⟨w.heap.size + 1, 2, none⟩ = some (.int .i64 0) := by go_simp
      have e3 : ((((w7.setCell ⟨w.heap.size + 1, 0, none⟩ (.int .i64 0)).setCell ⟨w.heap.size + 1, 1, none⟩ (.int .i64 0)).setCell ⟨w.heap.size + 1, 2, none⟩ (.int .i64 0)).setCell ⟨w.heap.size + 1, 3, none⟩ (.slice none 0 0)).cell? ⟨w.heap.size + 1, 3, none⟩ = some (.slice none 0 0) := by go_simp
      have hsm : Same w ((((w7.setCell ⟨w.heap.size + 1, 0, none⟩ (.int .i64 0)).setCell ⟨w.heap.size + 1, 1, none⟩ (.int .i64 0)).setCell ⟨w.heap.size + 1, 2, none⟩ (.int .i64 0)).setCell ⟨w.heap.size + 1, 3, none⟩ (.slice none 0 0)) := (((((HQ1.out.trans HW7.out).setCell (p := ⟨w.heap.size + 1, 0, none⟩) (by simp) _).setCell (p := ⟨w.heap.size + 1, 1, none⟩) (by simp) _).setCell (p := ⟨w.heap.size + 1, 2, none⟩) (by simp) _).setCell (p := ⟨w.heap.size + 1, 3, none⟩) (by simp) _)
      have hil : World.ownsRow ((((w7.setCell ⟨w.heap.size + 1, 0, none⟩ (.int .i64 0)).setCell ⟨w.heap.size + 1, 1, none⟩ (.int .i64 0)).setCell ⟨w.heap.size + 1, 2, none⟩ (.int .i64 0)).setCell ⟨w.heap.size + 1, 3, none⟩ (.slice none 0 0)) w.heap.size 3 1 (.slice none 0 0) ([] : List Int).length (icells []) := World.ownsRow_nil _ _ _ _
      generalize ((((w7.setCell ⟨w.heap.size + 1, 0, none⟩ (.int .i64 0)).setCell ⟨w.heap.size + 1, 1, none⟩ (.int .i64 0)).setCell ⟨w.heap.size + 1, 2, none⟩ (.int .i64 0)).setCell ⟨w.heap.size + 1, 3, none⟩ (.slice none 0 0)) = W at *
      refine bodyPost_ret (v := .tuple #[.agg #[.int .i64 0, .int .i64 0, .int .i64 0, .slice none 0 0], .int .i64 1]) ?_ rfl ⟨_, rfl, hsm, hil⟩
      simp [results, Try.f29, go_sem, e0, e1, e2, e3]
  · rw [show chkH v f u zs = 1 from if_neg h1] at hck
    have HCK := Lib.hid hck; clear hck
    obtain ⟨ao, cap, rfl⟩ := h.shape
    clear h h1
    generalize zs.length = n at *
    have HS := Lib.hid (((Same.refl w).alloc (.cells #[.int .i64 v, .int .i64 f, .int .i64 u, .slice ao n cap] 24)).alloc (.cells #[.int .i64 0, .int .i64 0, .int .i64 0, .slice none 0 0] 24))
    have HRB := Lib.hid (fun (w1 : World) (hs : Same ((w.alloc (.cells #[.int .i64 v, .int .i64 f, .int .i64 u, .slice ao n cap] 24)).alloc (.cells #[.int .i64 0, .int .i64 0, .int .i64 0, .slice none 0 0] 24)) w1) => (show w1.heap[w.heap.size + 1]? = some (.cells #[.int .i64 0, .int .i64 0, .int .i64 0, .slice none 0 0] 24 (0, 0)) from hs.heap (by have := heap_alloc_new (w.alloc (.cells #[.int .i64 v, .int .i64 f, .int .i64 u, .slice ao n cap] 24)) (.cells #[.int .i64 0, .int .i64 0, .int .i64 0, .slice none 0 0] 24); rw [World.size_alloc] at this; exact this)))
    go_enter Try.func29, Try.ntmps29
    go_wp2_with (go_at_call 17; (with_reducible refine (HCK.out _ (by exact HS.out)).mono ?_); rintro e w2 ⟨rfl, hw⟩; have HW2 := Lib.hid hw; obtain ⟨m0, m1, m2, m3, m4, m5, m6, m7⟩ := rowH (HRB.out _ hw); clear hw)
    have e0 : ((((w2.setCell ⟨w.heap.size + 1, 0, none⟩ (.int .i64 0)).setCell ⟨w.heap.size + 1, 1, none⟩ (.int .i64 0)).setCell ⟨w.heap.size + 1, 2, none⟩ (.int .i64 0)).setCell ⟨w.heap.size + 1, 3, none⟩ (.slice none 0 0)).cell? ⟨w.heap.size + 1, 0, none⟩ = some (.int .i64 0) := by go_simp
    have e1 : ((((w2.setCell ⟨w.heap.size + 1, 0, none⟩ (.int .i64 0)).setCell ⟨w.heap.size + 1, 1, none⟩ (.int .i64 0)).setCell ⟨w.heap.size + 1, 2, none⟩ (.int .i64 0)).setCell ⟨w.heap.size + 1, 3, none⟩ (.slice none 0 0)).cell? ⟨w.heap.size + 1, 1, none⟩ = some (.int .i64 0) := by go_simp
    have e2 : ((((w2.setCell ⟨w.heap.size + 1, 0, none⟩ (.int .i64 0)).setCell ⟨w.heap.size + 1, 1, none⟩ (.int .i64 0)).setCell ⟨w.heap.size + 1, 2, none⟩ (.int .i64 0)).setCell ⟨w.heap.size + 1, 3, none⟩ (.slice none 0 0)).cell? ⟨w.heap.size + 1, 2, none⟩ = some (.int .i64 0) := by go_simp
    have e3 : ((((w2.setCell ⟨w.heap.size + 1, 0, none⟩ (.int .i64 0)).setCell ⟨w.heap.size + 1, 1, none⟩ (.int .i64 0)).setCell ⟨w.heap.size + 1, 2, none⟩ (.int .i64 0)).setCell ⟨w.heap.size + 1, 3, none⟩ (.slice none 0 0)).cell? ⟨w.heap.size + 1, 3, none⟩ = some (.slice none 0 0) := by go_simp
    have hsm : Same w ((((w2.setCell ⟨w.heap.size + 1, 0, none⟩ (.int .i64 0)).setCell ⟨w.heap.size + 1, 1, none⟩ (.int .i64 0)).setCell ⟨w.heap.size + 1, 2, none⟩ (.int .i64 0)).setCell ⟨w.heap.size + 1, 3, none⟩ (.slice none 0 0)) := (((((HS.out.trans HW2.out).setCell (p := ⟨w.heap.size + 1, 0, none⟩) (by simp) _).setCell (p := ⟨w.heap.size + 1, 1, none⟩) (by simp) _).setCell (p := ⟨w.heap.size + 1, 2, none⟩) (by simp) _).setCell (p := ⟨w.heap.size + 1, 3, none⟩) (by simp) _)
    have hil : World.ownsRow ((((w2.setCell ⟨w.heap.size + 1, 0, none⟩ (.int .i64 0)).setCell ⟨w.heap.size + 1, 1, none⟩ (.int .i64 0)).setCell ⟨w.heap.size + 1, 2, none⟩ (.int .i64 0)).setCell ⟨w.heap.size + 1, 3, none⟩ (.slice none 0 0)) w.heap.size 3 1 (.slice none 0 0) ([] : List Int).length (icells []) := World.ownsRow_nil _ _ _ _
    generalize ((((w2.setCell ⟨w.heap.size + 1, 0, none⟩ (.int .i64 0)).setCell ⟨w.heap.size + 1, 1, none⟩ (.int .i64 0)).setCell ⟨w.heap.size + 1, 2, none⟩ (.int .i64 0)).setCell ⟨w.heap.size + 1, 3, none⟩ (.slice none 0 0)) = W at *
    refine bodyPost_ret (v := .tuple #[.agg #[.int .i64 0, .int .i64 0, .int .i64 0, .slice none 0 0], .int .i64 1]) ?_ rfl ⟨_, rfl, hsm, hil⟩
    simp [results, Try.f29, go_sem, e0, e1, e2, e3]
end Go.Proofs.Ytffanehmlbiemaa

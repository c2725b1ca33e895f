/- PowerMonotone, the second half: some interference. -/
import Derived.Test.YtjgbbafmjdapdaaDoorDelete
namespace Go.Proofs.YtjgbbafmjdapdaaDoor
open Go.RowKit

namespace powerMonotone
set_option maxHeartbeats 6400000 in
set_option maxRecDepth 100000 in
theorem fullMore (s t n : Int) (sl : Value) (zs : List Int) (more : Int) (u : Nat) (hu : u ≤ 255) (ok ok2 ok3 : Bool) (w : World) (hI : Ints w sl zs) (hl : zs.length ≤ 64) (h0 : 0 < zs.length) (he : recS s t n zs = (ok, 0)) (hp : Pw s) (m1 : 0 ≤ more) (m2 : more ≤ 68719476736 - s) (he2 : recS (s + more) t n zs = (ok2, 0)) (he3 : recS s t n (without zs (u % zs.length)) = (ok3, 0)) (himp : (ok = true ∧ ok2 = true ∧ ok3 = true) ∨ ok = false) (ht : Tab w) :
    Calls Tryd.prog 7 #[.agg #[.int .i64 s, .int .i64 t, .int .i64 n, sl], .int .i64 more, .int .u8 u] w fun e w' => e = .returned (.bool true) ∧ Same w w' := by
  obtain ⟨ao, cap, rfl⟩ := hI.shape
  have HAW := Lib.hid (awake_any (w.alloc (.cells #[.int .i64 s, .int .i64 t, .int .i64 n, .slice ao zs.length cap] 30)) (ht.same ((Same.refl w).alloc _)))
  have HCL := Lib.hid (fun (w1 : World) (h : Same w w1) => clone_any w1 _ zs (hI.same h) (by omega))
  have hr := fun (w1 : World) (v : Value) (h : Ints w1 v zs) => received_any s t n zs v w1 h
  rw [he] at hr
  have HR := Lib.hid hr; clear hr
  have hl' : (zs.length : Int) ≤ 64 := by omega
  have hr2 := fun (w1 : World) (v : Value) (h : Ints w1 v zs) => received_any (s + more) t n zs v w1 h
  rw [he2] at hr2
  have HR2 := Lib.hid hr2; clear hr2 he2
  have HCO := Lib.hid (fun (w1 : World) (h : Same w w1) => clone_own w1 _ zs (hI.same h) (by omega) h0)
  have hk : u % zs.length < zs.length := Nat.mod_lt _ h0
  have HDE := Lib.hid (fun (w0 w1 : World) (v : Value) (h : Own w0 w1 v zs) => delete_any w0 w1 v zs (u % zs.length) h hk)
  have hr3 := fun (w1 : World) (v : Value) (h : Ints w1 v (without zs (u % zs.length))) => received_any s t n _ v w1 h
  rw [he3] at hr3
  have HR3 := Lib.hid hr3; clear hr3
  have h0' : 0 < (zs.length : Int) := by omega
  have hne : ((zs.length : Int) == 0) = false := by rw [beq_eq_false_iff_ne]; omega
  obtain ⟨q, hq⟩ : ∃ q, q = u % zs.length := ⟨_, rfl⟩
  have hqi : (u : Int) % (zs.length : Int) = (q : Int) := by rw [hq]; rfl
  rw [← hq] at HDE HR3
  have hu' : (u : Int) ≤ 255 := by omega
  have hq0 : q < zs.length := by rw [hq]; exact hk
  have hq' : (q : Int) ≤ 100 := by omega
  clear hq0
  have HQ := Lib.hid hq
  obtain ⟨p1, p2⟩ := hp
  clear he he3 ht hI hl hq hk hu
  rcases himp with ⟨rfl, rfl, rfl⟩ | rfl
  all_goals
    go_enter Tryd.func7, Tryd.ntmps7
    go_wp2_with (go_at_call 11; with_reducible refine HAW.out.mono ?_; rintro e w1 ⟨rfl, h⟩; obtain ⟨k0, k1, k2, k3, hS⟩ := box4 h; clear h)
    go_region_held3 (fun w' => w'.cell? ⟨w.heap.size, 0, none⟩ = some (.int .i64 s) ∧ w'.cell? ⟨w.heap.size, 1, none⟩ = some (.int .i64 t) ∧ w'.cell? ⟨w.heap.size, 2, none⟩ = some (.int .i64 n) ∧ w'.cell? ⟨w.heap.size, 3, none⟩ = some (.slice ao zs.length cap) ∧ Same w w')
      (first | exact ⟨k0, k1, k2, k3, hS.drew⟩ | exact keep4 (by assumption) (by assumption) | assumption)
      (first
        | (go_at_call 19; refine (HCL.out _ (by first | exact hS.drew | exact (by assumption : _ ∧ _ ∧ _ ∧ _ ∧ Same w _).2.2.2.2)).mono ?_; rintro e w4 ⟨v2, rfl, hi2, hw4⟩)
        | (go_at_call 21; refine (HR.out _ _ (by assumption)).mono ?_; rintro e w5 ⟨rfl, rfl⟩))
    obtain ⟨j0, j1, j2, j3, hS5⟩ := (by assumption : World.cell? w5 ⟨w.heap.size, 0, none⟩ = some (.int .i64 s) ∧ World.cell? w5 ⟨w.heap.size, 1, none⟩ = some (.int .i64 t) ∧ World.cell? w5 ⟨w.heap.size, 2, none⟩ = some (.int .i64 n) ∧ World.cell? w5 ⟨w.heap.size, 3, none⟩ = some (.slice ao zs.length cap) ∧ Same w w5)
    clear k0 k1 k2 k3 hS
    have k0 := j0; have k1 := j1; have k2 := j2; have k3 := j3; have hS := hS5
    clear j0 j1 j2 j3 hS5
    go_wp2
    have e1 : IntKind.i64.wrap (s + more) = s + more := IntWalk.i64_in _ (by omega)
    go_region_held3 (fun w' => w'.cell? ⟨w.heap.size, 0, none⟩ = some (.int .i64 s) ∧ w'.cell? ⟨w.heap.size, 1, none⟩ = some (.int .i64 t) ∧ w'.cell? ⟨w.heap.size, 2, none⟩ = some (.int .i64 n) ∧ w'.cell? ⟨w.heap.size, 3, none⟩ = some (.slice ao zs.length cap) ∧ Same w w')
      (first | exact ⟨k0, k1, k2, k3, hS.drew⟩ | exact keep4 (by assumption) (by assumption) | assumption)
      (first
        | (go_at_call 19; refine (HCL.out _ (by first | exact hS.drew | exact (by assumption : _ ∧ _ ∧ _ ∧ _ ∧ Same w _).2.2.2.2)).mono ?_; rintro e w4 ⟨v2, rfl, hi2, hw4⟩)
        | (go_at_call 21; refine (HR2.out _ _ (by assumption)).mono ?_; rintro e w6 ⟨rfl, rfl⟩))
    obtain ⟨j0, j1, j2, j3, hS5⟩ := (by assumption : World.cell? w6 ⟨w.heap.size, 0, none⟩ = some (.int .i64 s) ∧ World.cell? w6 ⟨w.heap.size, 1, none⟩ = some (.int .i64 t) ∧ World.cell? w6 ⟨w.heap.size, 2, none⟩ = some (.int .i64 n) ∧ World.cell? w6 ⟨w.heap.size, 3, none⟩ = some (.slice ao zs.length cap) ∧ Same w w6)
    clear k0 k1 k2 k3 hS
    have k0 := j0; have k1 := j1; have k2 := j2; have k3 := j3; have hS := hS5
    clear j0 j1 j2 j3 hS5
    clear e1
    go_wp2
    have KD := Lib.hid (show World.cell? (World.drew w6) ⟨w.heap.size, 0, none⟩ = some (.int .i64 s) ∧ World.cell? (World.drew w6) ⟨w.heap.size, 1, none⟩ = some (.int .i64 t) ∧ World.cell? (World.drew w6) ⟨w.heap.size, 2, none⟩ = some (.int .i64 n) ∧ World.cell? (World.drew w6) ⟨w.heap.size, 3, none⟩ = some (.slice ao zs.length cap) ∧ Same w (World.drew w6) from ⟨k0, k1, k2, k3, hS.drew⟩)
    have e3 : IntKind.i64.wrap ((q : Int) + 1) = (q : Int) + 1 := IntWalk.i64_in _ (by omega)
    go_region_held3 (fun w' => w'.cell? ⟨w.heap.size, 0, none⟩ = some (.int .i64 s) ∧ w'.cell? ⟨w.heap.size, 1, none⟩ = some (.int .i64 t) ∧ w'.cell? ⟨w.heap.size, 2, none⟩ = some (.int .i64 n) ∧ w'.cell? ⟨w.heap.size, 3, none⟩ = some (.slice ao zs.length cap) ∧ Same w w')
      (first | exact KD.out | exact keep4 KD.out (by assumption) | exact keep4 (by assumption) (by assumption) | assumption)
      (first
        | (go_at_call 19; refine (HCO.out _ (by first | exact hS.drew | exact (by assumption : _ ∧ _ ∧ _ ∧ _ ∧ Same w _).2.2.2.2)).mono ?_; rintro e w7 ⟨v7, rfl, ho7, hw7⟩)
        | (go_at_call 31; refine (HDE.out _ _ _ ho7).mono ?_; rintro e w8 ⟨v8, rfl, hi8, hw8⟩)
        | (go_at_call 21; refine (HR3.out _ _ (by assumption)).mono ?_; rintro e w9 ⟨rfl, rfl⟩))
    obtain ⟨j0, j1, j2, j3, hS5⟩ := (by assumption : World.cell? w9 ⟨w.heap.size, 0, none⟩ = some (.int .i64 s) ∧ World.cell? w9 ⟨w.heap.size, 1, none⟩ = some (.int .i64 t) ∧ World.cell? w9 ⟨w.heap.size, 2, none⟩ = some (.int .i64 n) ∧ World.cell? w9 ⟨w.heap.size, 3, none⟩ = some (.slice ao zs.length cap) ∧ Same w w9)
    clear k0 k1 k2 k3 hS
    have k0 := j0; have k1 := j1; have k2 := j2; have k3 := j3; have hS := hS5
    clear j0 j1 j2 j3 hS5
    clear e3
    have H := Lib.hid hS; clear hS
    go_wp2
    go_ret
    exact ⟨rfl, H.out⟩
end powerMonotone
end Go.Proofs.YtjgbbafmjdapdaaDoor

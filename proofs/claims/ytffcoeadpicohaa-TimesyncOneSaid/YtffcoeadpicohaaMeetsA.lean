/- The walk over TimesyncMeets, over any contract of what it calls. -/
import Derived.Test.YtffcoeadpicohaaKeeps
import Derived.Deep.CutBlock
namespace Go.Proofs.Ytffcoeadpicohaa
open Go.RowKit

namespace timesyncMeets
abbrev CSend (o d n x e : Int) : Prop := ∀ w, Calls Try.prog 32 #[.agg #[.int .i64 o, .int .i64 d], .int .i64 n] w fun r w' => r = .returned (.tuple #[.int .i64 x, .int .i64 e]) ∧ Grew w w'
/-- The boxes of two states. -/
def D2 (w : World) (o d s c o' d' s' c' : Int) (w' : World) : Prop :=
  w'.cell? ⟨w.heap.size, 0, none⟩ = some (.int .i64 o) ∧ w'.cell? ⟨w.heap.size, 1, none⟩ = some (.int .i64 d) ∧ w'.cell? ⟨w.heap.size, 2, none⟩ = some (.int .i64 s) ∧ w'.cell? ⟨w.heap.size, 3, none⟩ = some (.int .i64 c) ∧
  w'.cell? ⟨w.heap.size + 1, 0, none⟩ = some (.int .i64 o') ∧ w'.cell? ⟨w.heap.size + 1, 1, none⟩ = some (.int .i64 d') ∧ w'.cell? ⟨w.heap.size + 1, 2, none⟩ = some (.int .i64 s') ∧ w'.cell? ⟨w.heap.size + 1, 3, none⟩ = some (.int .i64 c') ∧ Same w w'
theorem D2.keep {w w1 w2 : World} {o d s c o' d' s' c' : Int} (h : D2 w o d s c o' d' s' c' w1) (k : Same w1 w2) : D2 w o d s c o' d' s' c' w2 := by
  obtain ⟨h0, h1, h2, h3, h4, h5, h6, h7, h8⟩ := h
  exact ⟨k.cell h0, k.cell h1, k.cell h2, k.cell h3, k.cell h4, k.cell h5, k.cell h6, k.cell h7, h8.trans k⟩
theorem D2.new (w : World) (o d s c o' d' s' c' : Int) : D2 w o d s c o' d' s' c' ((w.alloc (sy4 o d s c)).alloc (sy4 o' d' s' c')) :=
  ⟨by go_simp, by go_simp, by go_simp, by go_simp, by go_simp, by go_simp, by go_simp, by go_simp, ((Same.refl w).alloc _).alloc _⟩
set_option maxRecDepth 100000 in
theorem bad (o d s c o' d' s' c' n e e' : Int) (h : (e != 0) = true ∨ (e = 0 ∧ (e' != 0) = true)) (w : World)
    (HC : ∀ w, Calls Try.prog 17 #[.agg #[.int .i64 o, .int .i64 d, .int .i64 s, .int .i64 c]] w fun r w' => r = .returned (.int .i64 e) ∧ Grew w w')
    (HP : ∀ w, Calls Try.prog 17 #[.agg #[.int .i64 o', .int .i64 d', .int .i64 s', .int .i64 c']] w fun r w' => r = .returned (.int .i64 e') ∧ Grew w w') :
    Calls Try.prog 5 #[.agg #[.int .i64 o, .int .i64 d, .int .i64 s, .int .i64 c], .agg #[.int .i64 o', .int .i64 d', .int .i64 s', .int .i64 c'], .int .i64 n] w fun r w' => r = .returned (.bool true) ∧ Same w w' := by
  have HAW := Lib.hid (fun w => tawake_any w)
  have H1 := Lib.hid HC; clear HC
  have H2 := Lib.hid HP; clear HP
  rcases h with h | ⟨rfl, h⟩
  · clear H2
    go_enter Try.func5, Try.ntmps5
    go_wp2_with (first
      | (go_at_call 10; (with_reducible refine (HAW.out _).mono ?_); rintro r w1 ⟨rfl, hw⟩; have HB := Lib.hid ((D2.new w o d s c o' d' s' c').keep hw); clear hw; obtain ⟨k0, k1, k2, k3, k4, k5, k6, k7, k8⟩ := HB.out)
      | (go_at_call 17; (with_reducible refine (H1.out _).mono ?_); rintro r w2 ⟨rfl, hw⟩; have HC := Lib.hid (HB.out.keep hw.toSame); clear hw HB k0 k1 k2 k3 k4 k5 k6 k7 k8))
    go_ret
    exact ⟨rfl, HC.out.2.2.2.2.2.2.2.2⟩
  · go_enter Try.func5, Try.ntmps5
    go_wp2_with (first
      | (go_at_call 10; (with_reducible refine (HAW.out _).mono ?_); rintro r w1 ⟨rfl, hw⟩; have HB := Lib.hid ((D2.new w o d s c o' d' s' c').keep hw); clear hw; obtain ⟨k0, k1, k2, k3, k4, k5, k6, k7, k8⟩ := HB.out)
      | (go_at_call 17; (with_reducible refine (H1.out _).mono ?_); rintro r w2 ⟨rfl, hw⟩; have HC := Lib.hid (HB.out.keep hw.toSame); clear hw HB k0 k1 k2 k3 k4 k5 k6 k7 k8; obtain ⟨k0, k1, k2, k3, k4, k5, k6, k7, k8⟩ := HC.out)
      | (go_at_call 17; (with_reducible refine (H2.out _).mono ?_); rintro r w3 ⟨rfl, hw⟩; have HD := Lib.hid (HC.out.keep hw.toSame); clear hw HC k0 k1 k2 k3 k4 k5 k6 k7 k8))
    go_ret
    exact ⟨rfl, HD.out.2.2.2.2.2.2.2.2⟩
/-- What the first half meets: no frame; a refusal; a state that is corrected. -/
def half1 (T e : Int) (q : St) (f m sz n c d : Int) : Prop :=
  (e == 0) = false ∨ (e = 0 ∧ T = 0) ∨ (e = 0 ∧ 0 < T ∧ (f = 5 ∨ f = 15 ∨ f = 13 ∨ f = 1)) ∨ (e = 0 ∧ 0 < T ∧ f = 0 ∧ m = 0 ∧ sz ≤ 1 ∧ (q.2.2.1 != n) = false ∧ (q.2.2.2 != c + 1) = false ∧ (q.2.1 != d) = false ∧ 0 ≤ c ∧ c ≤ 4095)
def half2 (T e me : Int) (q : St) (f m sz n c : Int) : Prop :=
  (e == 0) = false ∨ (e = 0 ∧ T = 0) ∨ (e = 0 ∧ 0 < T ∧ me = 0 ∧ (f == 0) = false) ∨ (e = 0 ∧ 0 < T ∧ me = 0 ∧ f = 0 ∧ m = 0 ∧ sz ≤ 1 ∧ (q.2.2.1 != n) = false ∧ (q.2.2.2 != c + 1) = false ∧ 0 ≤ c ∧ c ≤ 4095)
set_option maxHeartbeats 4000000 in
set_option maxRecDepth 100000 in
theorem good (o d s c o' d' s' c' n : Int) (T e : Int) (q0 q1 q2 q3 f N m sz : Int) (T' ee D me r0 r1 r2 r3 g N' m' sz' : Int) (h1 : half1 T e (q0, q1, q2, q3) f m sz n c d) (h2 : half2 T' ee me (r0, r1, r2, r3) g m' sz' n c) (w : World)
    (HC : ∀ w, Calls Try.prog 17 #[.agg #[.int .i64 o, .int .i64 d, .int .i64 s, .int .i64 c]] w fun r w' => r = .returned (.int .i64 0) ∧ Grew w w')
    (HP : ∀ w, Calls Try.prog 17 #[.agg #[.int .i64 o', .int .i64 d', .int .i64 s', .int .i64 c']] w fun r w' => r = .returned (.int .i64 0) ∧ Grew w w')
    (HS : CSend o' d' n T e)
    (HH : ∀ w, Calls Try.prog 13 #[.agg #[.int .i64 o, .int .i64 d, .int .i64 s, .int .i64 c], .int .i64 n, .int .i64 T] w fun r w' => r = .returned (.tuple #[.agg #[.int .i64 q0, .int .i64 q1, .int .i64 q2, .int .i64 q3], .int .i64 f]) ∧ Same w w')
    (HA : ∀ w, Calls Try.prog 33 #[.agg #[.int .i64 q0, .int .i64 q1], .agg #[.int .i64 o', .int .i64 d'], .int .i64 T] w fun r w' => r = .returned (.tuple #[.int .i64 N, .int .i64 m]) ∧ Grew w w')
    (HZ : f = 0 → ∀ w, Calls Try.prog 34 #[.int .i64 N] w fun e w' => e = .returned (.int .i64 sz) ∧ w' = w)
    (HS' : CSend o d n T' ee)
    (HM : ∀ w, Calls Try.prog 11 #[.agg #[.int .i64 o', .int .i64 d'], .int .i64 n, .int .i64 T'] w fun r w' => r = .returned (.tuple #[.int .i64 D, .int .i64 me]) ∧ Grew w w')
    (HK : ∀ w, Calls Try.prog 15 #[.agg #[.int .i64 o, .int .i64 d, .int .i64 s, .int .i64 c], .int .i64 n, .int .i64 D] w fun r w' => r = .returned (.tuple #[.agg #[.int .i64 r0, .int .i64 r1, .int .i64 r2, .int .i64 r3], .int .i64 g]) ∧ Same w w')
    (HA' : ∀ w, Calls Try.prog 33 #[.agg #[.int .i64 r0, .int .i64 r1], .agg #[.int .i64 o', .int .i64 d'], .int .i64 T'] w fun r w' => r = .returned (.tuple #[.int .i64 N', .int .i64 m']) ∧ Grew w w')
    (HZ' : g = 0 → ∀ w, Calls Try.prog 34 #[.int .i64 N'] w fun e w' => e = .returned (.int .i64 sz') ∧ w' = w) :
    Calls Try.prog 5 #[.agg #[.int .i64 o, .int .i64 d, .int .i64 s, .int .i64 c], .agg #[.int .i64 o', .int .i64 d', .int .i64 s', .int .i64 c'], .int .i64 n] w fun r w' => r = .returned (.bool true) ∧ Same w w' := by
  have HAW := Lib.hid (fun w => tawake_any w)
  have H1 := Lib.hid HC; clear HC
  have H2 := Lib.hid HP; clear HP
  have H3 := Lib.hid HS; clear HS
  have H4 := Lib.hid HH; clear HH
  have H5 := Lib.hid HA; clear HA
  have H6 := Lib.hid HZ; clear HZ
  have H7 := Lib.hid HS'; clear HS'
  have H8 := Lib.hid HM; clear HM
  have H9 := Lib.hid HK; clear HK
  have H10 := Lib.hid HA'; clear HA'
  have H11 := Lib.hid HZ'; clear HZ'
  have F1 := Lib.hid h1; clear h1
  have F2 := Lib.hid h2; clear h2
  go_enter Try.func5, Try.ntmps5
  go_upto_region 5 with (first
    | (go_at_call 10; (with_reducible refine (HAW.out _).mono ?_); rintro r w1 ⟨rfl, hw⟩; have HB := Lib.hid ((D2.new w o d s c o' d' s' c').keep hw); clear hw; obtain ⟨k0, k1, k2, k3, k4, k5, k6, k7, k8⟩ := HB.out)
    | (go_at_call 17; (with_reducible refine (H1.out _).mono ?_); rintro r w2 ⟨rfl, hw⟩; have HC := Lib.hid (HB.out.keep hw.toSame); clear hw HB k0 k1 k2 k3 k4 k5 k6 k7 k8; obtain ⟨k0, k1, k2, k3, k4, k5, k6, k7, k8⟩ := HC.out)
    | (go_at_call 17; (with_reducible refine (H2.out _).mono ?_); rintro r w3 ⟨rfl, hw⟩; have HD := Lib.hid (HC.out.keep hw.toSame); clear hw HC k0 k1 k2 k3 k4 k5 k6 k7 k8; obtain ⟨k0, k1, k2, k3, k4, k5, k6, k7, k8⟩ := HD.out))
  have f1 := F1.out
  have f2 := F2.out
  clear F1 F2
  unfold half1 at f1
  unfold half2 at f2
  simp only at f1 f2
  rcases f1 with z1 | ⟨rfl, rfl⟩ | ⟨rfl, z1, rfl | rfl | rfl | rfl⟩ | ⟨rfl, z1, rfl, rfl, z2, y1, y2, y3, z3, z4⟩ <;> rcases f2 with z5 | ⟨rfl, rfl⟩ | ⟨rfl, z5, rfl, z6⟩ | ⟨rfl, z5, rfl, rfl, rfl, z6, z7, z8, z9, z10⟩
  all_goals as_aux_lemma =>
    go_wp2_with (first
      | (go_at_call 32; (with_reducible refine (H3.out _).mono ?_); rintro r w4 ⟨rfl, hw⟩; have HE := Lib.hid (HD.out.keep hw.toSame); clear hw HD k0 k1 k2 k3 k4 k5 k6 k7 k8; have HD := HE; clear HE; obtain ⟨k0, k1, k2, k3, k4, k5, k6, k7, k8⟩ := HD.out)
      | (go_at_call 13; (with_reducible refine (H4.out _).mono ?_); rintro r w5 ⟨rfl, hw⟩; have HE := Lib.hid (HD.out.keep (hw.alloc (sy4 q0 q1 q2 q3))); have HQ := Lib.hid (Same.refl (w5.alloc (sy4 q0 q1 q2 q3))); clear hw HD k0 k1 k2 k3 k4 k5 k6 k7 k8; have HD := HE; clear HE; obtain ⟨k0, k1, k2, k3, k4, k5, k6, k7, k8⟩ := HD.out; obtain ⟨x0, x1, x2, x3⟩ := cells4 HQ.out)
      | (go_at_call 33; (with_reducible refine (H5.out _).mono ?_); rintro r w6 ⟨rfl, hw⟩; have HE := Lib.hid (HD.out.keep hw.toSame); have HQ' := Lib.hid (HQ.out.trans hw.toSame); clear hw HD HQ k0 k1 k2 k3 k4 k5 k6 k7 k8 x0 x1 x2 x3; have HD := HE; clear HE; obtain ⟨k0, k1, k2, k3, k4, k5, k6, k7, k8⟩ := HD.out; obtain ⟨x0, x1, x2, x3⟩ := cells4 HQ'.out)
      | (go_at_call 34; (refine (H6.out (by first | rfl | trivial) _).mono ?_); rintro r w7 ⟨rfl, rfl⟩)
      | (go_at_call 32; (with_reducible refine (H7.out _).mono ?_); rintro r w8 ⟨rfl, hw⟩; have HE := Lib.hid (HD.out.keep hw.toSame); clear hw HD k0 k1 k2 k3 k4 k5 k6 k7 k8; have HD := HE; clear HE; obtain ⟨k0, k1, k2, k3, k4, k5, k6, k7, k8⟩ := HD.out)
      | (go_at_call 11; (with_reducible refine (H8.out _).mono ?_); rintro r w9 ⟨rfl, hw⟩; have HE := Lib.hid (HD.out.keep hw.toSame); clear hw HD k0 k1 k2 k3 k4 k5 k6 k7 k8; have HD := HE; clear HE; obtain ⟨k0, k1, k2, k3, k4, k5, k6, k7, k8⟩ := HD.out)
      | (go_at_call 15; (with_reducible refine (H9.out _).mono ?_); rintro r w10 ⟨rfl, hw⟩; have HE := Lib.hid (HD.out.keep (hw.alloc (sy4 r0 r1 r2 r3))); have HR := Lib.hid (Same.refl (w10.alloc (sy4 r0 r1 r2 r3))); clear hw HD k0 k1 k2 k3 k4 k5 k6 k7 k8; have HD := HE; clear HE; obtain ⟨k0, k1, k2, k3, k4, k5, k6, k7, k8⟩ := HD.out; obtain ⟨y0, y1, y2, y3⟩ := cells4 HR.out)
      | (go_at_call 33; (with_reducible refine (H10.out _).mono ?_); rintro r w11 ⟨rfl, hw⟩; have HE := Lib.hid (HD.out.keep hw.toSame); have HR' := Lib.hid (HR.out.trans hw.toSame); clear hw HD HR k0 k1 k2 k3 k4 k5 k6 k7 k8 y0 y1 y2 y3; have HD := HE; clear HE; obtain ⟨k0, k1, k2, k3, k4, k5, k6, k7, k8⟩ := HD.out; obtain ⟨y0, y1, y2, y3⟩ := cells4 HR'.out)
      | (go_at_call 34; (refine (H11.out (by first | rfl | trivial) _).mono ?_); rintro r w12 ⟨rfl, rfl⟩))
    go_ret
    exact ⟨rfl, HD.out.2.2.2.2.2.2.2.2⟩
end timesyncMeets
end Go.Proofs.Ytffcoeadpicohaa

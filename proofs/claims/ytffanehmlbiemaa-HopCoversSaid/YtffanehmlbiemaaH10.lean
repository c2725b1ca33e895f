/- Which channels stay. -/
import Derived.Test.YtffanehmlbiemaaH9
namespace Go.Proofs.Ytffanehmlbiemaa
open Go.RowKit

/-- How many channels are not in a blacklist. -/
def goodN (ch bl : List Int) : Nat := (ch.filter fun c => !hasB bl c).length
/-- One more of the blacklist is kept, if there are too few. -/
def keptS (ch : List Int) (gd : Nat) (least : Int) (kept : List Int) (b : Int) : List Int := if (decide (((gd + kept.length : Nat) : Int) < least) && hasB ch b && !hasB kept b) = true then kept ++ [b] else kept
def keptK (ch bl : List Int) (gd : Nat) (least : Int) (k : Nat) : List Int := (bl.take k).foldl (keptS ch gd least) []
theorem take_snoc (zs : List Int) (k : Nat) (h : k < zs.length) : zs.take (k + 1) = zs.take k ++ [zs.getD k 0] := by
  rw [List.take_succ_eq_append_getElem h, List.getD_eq_getElem?_getD, List.getElem?_eq_getElem h]; rfl
theorem hasB_snoc (l : List Int) (x z : Int) : hasB (l ++ [x]) z = (hasB l z || decide (z = x)) := by
  unfold hasB
  by_cases h : z ∈ l <;> by_cases e : z = x <;> simp [h, e]
theorem goodN_snoc (l bl : List Int) (x : Int) : goodN (l ++ [x]) bl = goodN l bl + (if hasB bl x = true then 0 else 1) := by
  unfold goodN
  rw [List.filter_append, List.length_append]
  congr 1
  cases h : hasB bl x <;> simp [h]
theorem goodN_le (l bl : List Int) : goodN l bl ≤ l.length := List.length_filter_le _ _
theorem keptK_succ (ch bl : List Int) (gd : Nat) (least : Int) (k : Nat) (h : k < bl.length) : keptK ch bl gd least (k + 1) = keptS ch gd least (keptK ch bl gd least k) (bl.getD k 0) := by
  unfold keptK
  rw [take_snoc bl k h, List.foldl_append]; rfl
theorem keptK_le (ch bl : List Int) (gd : Nat) (least : Int) : ∀ k, k ≤ bl.length → (keptK ch bl gd least k).length ≤ k
  | 0, _ => by simp [keptK]
  | k + 1, h => by
    have ih := keptK_le ch bl gd least k (by omega)
    rw [keptK_succ ch bl gd least k (by omega)]
    unfold keptS
    split
    · rw [List.length_append]; simp; omega
    · omega
/-- The flags of the channels that stay. -/
def stayA (ch bl kept : List Int) (i : Nat) : Bool := (hasB ch (i : Int) && !hasB bl (i : Int)) || hasB kept (i : Int)
theorem nat_int {c : Int} {i : Nat} (h : 0 ≤ c) : decide ((i : Int) = c) = decide (i = c.toNat) := by
  by_cases e : i = c.toNat
  · rw [decide_eq_true e, decide_eq_true (by omega)]
  · rw [decide_eq_false e, decide_eq_false (by omega)]
theorem Same.setRow {a w : World} (h : Same a w) {g : Nat} (hg : a.heap.size ≤ g) (cs : Array Value) : Same a (w.setRow g cs) :=
  ⟨h.os, h.tape, h.output, Nat.le_trans h.size (by simp), fun k hk => (setRow_other w g k cs (by omega)).trans (h.block k hk)⟩
theorem hasB_new (l : List Int) (x : Int) (i : Nat) (h : 0 ≤ x) (e : i = x.toNat) : hasB (l ++ [x]) (i : Int) = true := by
  rw [hasB_snoc, show decide ((i : Int) = x) = true from decide_eq_true (by omega), Bool.or_true]
theorem hasB_old (l : List Int) (x : Int) (i : Nat) (e : ¬ i = x.toNat) : hasB (l ++ [x]) (i : Int) = hasB l (i : Int) := by
  rw [hasB_snoc, show decide ((i : Int) = x) = false from decide_eq_false (by omega), Bool.or_false]
set_option maxHeartbeats 3200000 in
theorem staying_any (w : World) (v1 v2 : Value) (ch bl : List Int) (least : Int) (h1 : IL w v1 ch) (h2 : IL w v2 bl) (hc : ∀ k, k < ch.length → 0 ≤ ch.getD k 0 ∧ ch.getD k 0 ≤ 15) (hb : ∀ k, k < bl.length → 0 ≤ bl.getD k 0 ∧ bl.getD k 0 ≤ 15) (l1 : ch.length ≤ 1000) (l2 : bl.length ≤ 1000) :
    Calls Try.prog 45 #[v1, v2, .int .i64 least] w fun e w' => e = .returned (.agg (fl (stayA ch bl (keptK ch bl (goodN ch bl) least bl.length)))) ∧ Same w w' := by
  have HCO := Lib.hid (fun (w1 : World) (hs : Same w w1) (c : Int) => ContainsI_any w1 v2 bl c (h2.same hs) l2)
  have hz1 : ∃ ao cap, v1 = .slice ao ch.length cap ∧ ∀ i, i < ch.length → ∃ b off, ao = some ⟨b, off, none⟩ ∧ w.cell? ⟨b, off + i, none⟩ = some (.int .i64 (ch.getD i 0)) := by
    rcases h1 with ⟨b, off, cap, rfl, _, _, g⟩ | ⟨ao, cap, rfl, rfl⟩
    · exact ⟨_, _, rfl, fun i hi => ⟨b, off, rfl, g i hi⟩⟩
    · exact ⟨_, _, rfl, fun i hi => absurd hi (by simp)⟩
  have hz2 : ∃ ao cap, v2 = .slice ao bl.length cap ∧ ∀ i, i < bl.length → ∃ b off, ao = some ⟨b, off, none⟩ ∧ w.cell? ⟨b, off + i, none⟩ = some (.int .i64 (bl.getD i 0)) := by
    rcases h2 with ⟨b, off, cap, rfl, _, _, g⟩ | ⟨ao, cap, rfl, rfl⟩
    · exact ⟨_, _, rfl, fun i hi => ⟨b, off, rfl, g i hi⟩⟩
    · exact ⟨_, _, rfl, fun i hi => absurd hi (by simp)⟩
  clear h1 h2
  obtain ⟨a1, k1, rfl, hx1⟩ := hz1
  obtain ⟨a2, k2, rfl, hx2⟩ := hz2
  have H1 := Lib.hid hx1; clear hx1
  have H2 := Lib.hid hx2; clear hx2
  have HC := Lib.hid hc; clear hc
  have HB := Lib.hid hb; clear hb
  have hst : Flags (((w.alloc (.cells (fl fun _ => false) 66)).alloc (.cells (fl fun _ => false) 66)).alloc (.cells (fl fun _ => false) 66)) w.heap.size (fun _ => false) ∧ Flags (((w.alloc (.cells (fl fun _ => false) 66)).alloc (.cells (fl fun _ => false) 66)).alloc (.cells (fl fun _ => false) 66)) (w.heap.size + 1) (fun _ => false) ∧ Flags (((w.alloc (.cells (fl fun _ => false) 66)).alloc (.cells (fl fun _ => false) 66)).alloc (.cells (fl fun _ => false) 66)) (w.heap.size + 1 + 1) (fun _ => false) ∧ Same w (((w.alloc (.cells (fl fun _ => false) 66)).alloc (.cells (fl fun _ => false) 66)).alloc (.cells (fl fun _ => false) 66)) := by
    refine ⟨?_, ?_, ?_, (((Same.refl w).alloc _).alloc _).alloc _⟩
    · exact (Below.heap_alloc _ _ _ (by simp; omega)).trans (heap_alloc2_old w _ _)
    · exact (Below.heap_alloc _ _ _ (by simp)).trans (heap_alloc2_new w _ _)
    · have := heap_alloc_new ((w.alloc (.cells (fl fun _ => false) 66)).alloc (.cells (fl fun _ => false) 66)) (.cells (fl fun _ => false) 66)
      rw [World.size_alloc, World.size_alloc] at this
      exact this
  have hfl : fl (fun _ => false) = #[.bool false, .bool false, .bool false, .bool false, .bool false, .bool false, .bool false, .bool false, .bool false, .bool false, .bool false, .bool false, .bool false, .bool false, .bool false, .bool false] := rfl
  rw [hfl] at hst; clear hfl
  have HST := Lib.hid hst; clear hst
  obtain ⟨R, hR⟩ : ∃ R, fl (stayA ch bl (keptK ch bl (goodN ch bl) least bl.length)) = R := ⟨_, rfl⟩
  rw [hR]
  have HR := Lib.hid hR.symm; clear hR
  go_enter Try.func45, Try.ntmps45
  go_wp2
  go_loopw [9, 16] (fun c i wr => ∃ k : Nat, k ≤ ch.length ∧ i = .int .i64 k ∧ c = .int .i64 (goodN (ch.take k) bl : Nat) ∧ Flags wr w.heap.size (fun _ => false) ∧ Flags wr (w.heap.size + 1) (fun i => hasB (ch.take k) (i : Int)) ∧ Flags wr (w.heap.size + 1 + 1) (fun i => hasB (ch.take k) (i : Int) && !hasB bl (i : Int)) ∧ Same w wr) (fun _ i _ => ch.length - (intOf i).toNat)
  case atStart => exact ⟨0, Nat.zero_le _, rfl, rfl, HST.out.1, HST.out.2.1, HST.out.2.2.1, HST.out.2.2.2⟩
  case round =>
    obtain ⟨k, hk, rfl, rfl, q0, q1, q2, hS⟩ := hrel
    by_cases hlt : k < ch.length
    · obtain ⟨b, off, rfl, z0⟩ := H1.out k hlt
      replace z0 := hS.cell z0
      obtain ⟨x0, x15⟩ := HC.out k hlt
      have hsn := take_snoc ch k hlt
      have hgd := goodN_le (ch.take k) bl
      have hgl : goodN (ch.take k) bl ≤ 1000 := by rw [List.length_take] at hgd; omega
      have HSN := Lib.hid hsn; clear hsn hgd
      obtain ⟨x, hx⟩ : ∃ x, ch.getD k 0 = x := ⟨_, rfl⟩
      rw [hx] at z0 x0 x15 HSN
      clear hx
      obtain ⟨e1, e2⟩ := q1.cell x.toNat (by omega)
      obtain ⟨e3, e4⟩ := q2.cell x.toNat (by omega)
      have HQ := Lib.hid (And.intro q0 (And.intro q1 (And.intro q2 hS))); clear q0 q1 q2 hS
      have hco := fun w1 hs => HCO.out w1 hs x
      have hgs := goodN_snoc (ch.take k) bl x
      rw [← HSN.out] at hgs
      obtain ⟨u, hu⟩ : ∃ u, hasB bl x = u := ⟨_, rfl⟩
      rw [hu] at hco hgs
      have HU := Lib.hid hu; clear hu
      have HCX := Lib.hid hco; clear hco
      have HG := Lib.hid hgs; clear hgs
      generalize hasB (ch.take k) (x.toNat : Int) = g1 at *
      generalize hasB bl (x.toNat : Int) = g2 at *
      generalize hgg : goodN (ch.take k) bl = gd at *
      have HGG := Lib.hid hgg; clear hgg
      cases u with
      | true =>
        go_wp2_with (go_at_call 31; (with_reducible refine (HCX.out _ (by exact HQ.out.2.2.2.setCell (p := ⟨w.heap.size + 1, x.toNat, none⟩) (by simp) _)).mono ?_); rintro e w1 ⟨rfl, hw⟩; replace hw := hw.symm; subst hw)
        go_roundw
        case rel =>
          obtain ⟨q0, q1, q2, hS⟩ := HQ.out
          refine ⟨k + 1, by omega, by go_num, by rw [HG.out]; simp, q0.other (by omega), q1.set x.toNat (by omega) _ ?_ ?_, (q2.other (by omega)).congr ?_, hS.setCell (p := ⟨w.heap.size + 1, x.toNat, none⟩) (by simp) _⟩
          · rw [HSN.out]; exact hasB_new _ _ _ x0 rfl
          · intro i hi hn; rw [HSN.out]; exact hasB_old _ _ _ hn
          · intro i hi
            rw [HSN.out]
            by_cases e : i = x.toNat
            · have : hasB bl (i : Int) = true := by rw [show (i : Int) = x by omega]; exact HU.out
              rw [this]; simp
            · rw [hasB_old _ _ _ e]
        case measure => simp [intOf]; omega
      | false =>
        go_wp2_with (go_at_call 31; (with_reducible refine (HCX.out _ (by exact HQ.out.2.2.2.setCell (p := ⟨w.heap.size + 1, x.toNat, none⟩) (by simp) _)).mono ?_); rintro e w1 ⟨rfl, hw⟩; replace hw := hw.symm; subst hw)
        go_roundw
        case rel =>
          obtain ⟨q0, q1, q2, hS⟩ := HQ.out
          refine ⟨k + 1, by omega, by go_num, by rw [HG.out]; go_num, (q0.other (by omega)).other (by omega), (q1.set x.toNat (by omega) _ ?_ ?_).other (by omega), (q2.other (by omega)).set x.toNat (by omega) _ ?_ ?_, (hS.setCell (p := ⟨w.heap.size + 1, x.toNat, none⟩) (by simp) _).setCell (p := ⟨w.heap.size + 1 + 1, x.toNat, none⟩) (by simp; omega) _⟩
          · rw [HSN.out]; exact hasB_new _ _ _ x0 rfl
          · intro i hi hn; rw [HSN.out]; exact hasB_old _ _ _ hn
          · rw [HSN.out, hasB_new _ _ _ x0 rfl, show ((x.toNat : Nat) : Int) = x by omega, HU.out]; rfl
          · intro i hi hn; rw [HSN.out, hasB_old _ _ _ hn]
        case measure => simp [intOf]; omega
    · obtain rfl : k = ch.length := by omega
      rw [List.take_length] at q1 q2
      rw [show goodN (ch.take ch.length) bl = goodN ch bl by rw [List.take_length]]
      have hgl := goodN_le ch bl
      have HQ := Lib.hid (And.intro q0 (And.intro q1 (And.intro q2 hS))); clear q0 q1 q2 hS
      have HKS := Lib.hid (fun j hj => keptK_succ ch bl (goodN ch bl) least j hj)
      have HKL := Lib.hid (fun j hj => keptK_le ch bl (goodN ch bl) least j hj)
      generalize hgd : goodN ch bl = gd at *
      have HGD := Lib.hid hgd; clear hgd
      go_wp2
      go_loopw [9, 33] (fun c i wx => ∃ k : Nat, k ≤ bl.length ∧ i = .int .i64 k ∧ c = .int .i64 ((gd + (keptK ch bl gd least k).length : Nat) : Int) ∧ Flags wx w.heap.size (fun _ => false) ∧ Flags wx (w.heap.size + 1) (fun i => hasB ch (i : Int)) ∧ Flags wx (w.heap.size + 1 + 1) (stayA ch bl (keptK ch bl gd least k)) ∧ Same w wx) (fun _ i _ => bl.length - (intOf i).toNat)
      case atStart => exact ⟨0, Nat.zero_le _, rfl, rfl, HQ.out.1, HQ.out.2.1, HQ.out.2.2.1.congr (fun i hi => by unfold stayA; simp [keptK, hasB]), HQ.out.2.2.2⟩
      case round =>
        obtain ⟨k, hk, rfl, rfl, q0, q1, q2, hS⟩ := hrel
        by_cases hlt : k < bl.length
        · obtain ⟨b, off, rfl, z0⟩ := H2.out k hlt
          replace z0 := hS.cell z0
          obtain ⟨x0, x15⟩ := HB.out k hlt
          have hks := HKS.out k hlt
          have hkl := HKL.out k (by omega)
          have hkk : gd + (keptK ch bl gd least k).length ≤ 3000 := by omega
          have hbx : hasB bl (bl.getD k 0) = true := hasB_hit hlt rfl
          obtain ⟨x, hx⟩ : ∃ x, bl.getD k 0 = x := ⟨_, rfl⟩
          rw [hx] at z0 x0 x15 hks hbx
          clear hx hkl
          obtain ⟨e1, e2⟩ := q1.cell x.toNat (by omega)
          obtain ⟨e3, e4⟩ := q2.cell x.toNat (by omega)
          rw [show ((x.toNat : Nat) : Int) = x by omega] at e1
          have hst2 : stayA ch bl (keptK ch bl gd least k) x.toNat = hasB (keptK ch bl gd least k) x := by
            unfold stayA; rw [show ((x.toNat : Nat) : Int) = x by omega, hbx]; simp
          rw [hst2] at e3
          have HQ := Lib.hid (And.intro q0 (And.intro q1 (And.intro q2 hS))); clear q0 q1 q2 hS hbx hst2
          unfold keptS at hks
          generalize hK : keptK ch bl gd least k = K at *
          have HK := Lib.hid hK; clear hK
          have HKK := Lib.hid hks; clear hks
          by_cases c1 : ((gd + K.length : Nat) : Int) < least
          · have d1 : decide (((gd + K.length : Nat) : Int) < least) = true := decide_eq_true c1
            rw [show ((gd + K.length : Nat) : Int) = (gd : Int) + (K.length : Int) by omega] at d1 c1
            obtain ⟨u1, hu1⟩ : ∃ u, hasB ch x = u := ⟨_, rfl⟩
            obtain ⟨u2, hu2⟩ : ∃ u, hasB K x = u := ⟨_, rfl⟩
            rw [hu1] at e1
            rw [hu2] at e3
            have HU := Lib.hid (And.intro hu1 hu2); clear hu1 hu2
            cases u1 with
            | false =>
              go_wp2
              go_roundw
              case rel =>
                have e : keptK ch bl gd least (k + 1) = K := by rw [HKK.out, HU.out.1]; simp
                exact ⟨k + 1, by omega, by go_num, by rw [e], HQ.out.1, HQ.out.2.1, by rw [e]; exact HQ.out.2.2.1, HQ.out.2.2.2⟩
              case measure => simp [intOf]; omega
            | true =>
              cases u2 with
              | true =>
                go_wp2
                go_roundw
                case rel =>
                  have e : keptK ch bl gd least (k + 1) = K := by rw [HKK.out, HU.out.2]; simp
                  exact ⟨k + 1, by omega, by go_num, by rw [e], HQ.out.1, HQ.out.2.1, by rw [e]; exact HQ.out.2.2.1, HQ.out.2.2.2⟩
                case measure => simp [intOf]; omega
              | false =>
                go_wp2
                go_roundw
                case rel =>
                  have e : keptK ch bl gd least (k + 1) = K ++ [x] := by
                    rw [HKK.out, HU.out.1, HU.out.2, show decide (((gd + K.length : Nat) : Int) < least) = true from decide_eq_true (by omega)]; rfl
                  obtain ⟨q0, q1, q2, hS⟩ := HQ.out
                  refine ⟨k + 1, by omega, by go_num, by rw [e]; simp; omega, q0.other (by omega), q1.other (by omega), ?_, hS.setCell (p := ⟨w.heap.size + 1 + 1, x.toNat, none⟩) (by simp; omega) _⟩
                  rw [e]
                  refine q2.set x.toNat (by omega) _ ?_ ?_
                  · unfold stayA; rw [hasB_new _ _ _ x0 rfl]; simp
                  · intro i hi hn; unfold stayA; rw [hasB_old _ _ _ hn]
                case measure => simp [intOf]; omega
          · have d1 : decide ((gd : Int) + (K.length : Int) < least) = false := decide_eq_false (by omega)
            have c2 : least ≤ (gd : Int) + (K.length : Int) := by omega
            go_wp2
            go_roundw
            case rel =>
              have e : keptK ch bl gd least (k + 1) = K := by
                rw [HKK.out, show decide (((gd + K.length : Nat) : Int) < least) = false from decide_eq_false c1]; simp
              exact ⟨k + 1, by omega, by go_num, by rw [e], HQ.out.1, HQ.out.2.1, by rw [e]; exact HQ.out.2.2.1, HQ.out.2.2.2⟩
            case measure => simp [intOf]; omega
        · obtain rfl : k = bl.length := by omega
          have HS3 := Lib.hid hS; clear hS
          have HQ2 := Lib.hid q2; clear q2
          have HQ0 := Lib.hid q0; clear q0 q1
          have HRR := Lib.hid (show fl (stayA ch bl (keptK ch bl gd least bl.length)) = R from HR.out.symm)
          generalize stayA ch bl (keptK ch bl gd least bl.length) = A at *
          go_wp2_with (first | (refine wpList_load_row rfl 66 _ rfl _ rfl 66 _ (0, 0) _ HQ2.out Try.underlying66 rfl Try.sizeFl ?_) | (refine wpList_store_row rfl 66 _ _ rfl _ (fl A) rfl rfl 66 _ HQ0.out Try.sizeFl rfl (fl_one A) ?_))
          refine bodyPost_ret (v := .agg (fl A)) ?_ rfl ⟨by rw [HRR.out], HS3.out.setRow (Nat.le_refl _) _⟩
          exact results_cell_row Try.results45 _ _ _ 66 _ (0, 0) _ rfl (setRow_heap _ _ _ _ _ _ HQ0.out) Try.underlying66 rfl Try.sizeFl
end Go.Proofs.Ytffanehmlbiemaa

/- Plain facts: a frame that was written is read. -/
import Derived.Test.YtilpbbpdchbdfaaFS
import Derived.Test.YtilpbbpdchbdfaaFD
import Derived.Test.YtilpbbpdchbdfaaBPlainK
namespace Go.Proofs.Ytilpbbpdchbdfaa
open Go.RowKit

theorem U_at {B a r : List Nat} (hb : Bit.Bits B) (wd : Nat) {W : Int} (hW : W = wd) (x : Int) (hB : B = a ++ Bit.enc wd x ++ r) (h1 : 1 ≤ wd) (h2 : wd ≤ 63) (h3 : 0 ≤ x) (h4 : x < 2 ^ wd) :
    ∀ n : Int, Rc.rU (Bit.strB (Bit.pack B)) W n (a.length, 0) = (((a ++ Bit.enc wd x).length, 0), x) := by
  intro n
  subst hW
  have h := Bit.rnum_mid (a := a) (e := Bit.enc wd x) (r := r) (l := 1) (wd := (wd : Int)) (by rwa [← hB]) (by omega) (by omega) (by simp [Bit.enc_length]) (by omega)
  unfold Rc.rU
  rw [hB, h]
  have hv := Bit.val_enc wd x
  rw [Int.emod_eq_of_lt h3 h4] at hv
  simp [Bit.enc_length, hv]
theorem stU_at {B a r : List Nat} (hb : Bit.Bits B) (i : Nat) (wd : Nat) {W : Int} (hW : W = wd) (x : Int) (hB : B = a ++ Bit.enc wd x ++ r) (h1 : 1 ≤ wd) (h2 : wd ≤ 63) (h3 : 0 ≤ x) (h4 : x < 2 ^ wd) (g : Fr) :
    stU (Rc.rU (Bit.strB (Bit.pack B))) i W ((a.length, 0), g) = (((a ++ Bit.enc wd x).length, 0), g.set i x) := by
  unfold stU
  simp only [U_at hb wd hW x hB h1 h2 h3 h4]
theorem stS_at {B a r : List Nat} (hb : Bit.Bits B) (x : Int) (hB : B = a ++ Bit.enc 16 x ++ r) (h3 : -32768 ≤ x) (h4 : x < 32768) (g : Fr) :
    stS (Rc.rS (Bit.strB (Bit.pack B))) 16 ((a.length, 0), g) = (((a ++ Bit.enc 16 x).length, 0), { g with e := x }) := by
  have h := Bit.rnum_mid (a := a) (e := Bit.enc 16 x) (r := r) (l := 2) (wd := 16) (by rwa [← hB]) (by omega) (by omega) (by simp [Bit.enc_length]) (by omega)
  have hs := Bit.sgn_enc 16 x (by decide) (by omega) (by omega)
  unfold stS Rc.rS Bit.rsig
  rw [hB, h]
  simp only
  rw [if_neg (by simp)]
  simp [Bit.enc_length, hs]
theorem textBits_Bits (l : List UInt8) : Bit.Bits (Bit.textBits l) := by
  intro b hb
  unfold Bit.textBits at hb
  rw [List.mem_flatMap] at hb
  obtain ⟨c, _, hc⟩ := hb
  exact Bit.enc_bits _ _ _ hc
theorem strB_toNat (d : ByteArray) : Bit.strB (d.data.toList.map UInt8.toNat) = d := by
  unfold Bit.strB
  rw [List.map_map, show (UInt8.ofNat ∘ UInt8.toNat) = id from funext fun c => by simp, List.map_id]
theorem stT_at {B a r : List Nat} (hb : Bit.Bits B) (d : ByteArray) (hd : d.size ≤ 127) (hB : B = a ++ (Bit.enc 7 d.size ++ Bit.textBits d.data.toList) ++ r) (g : Fr) :
    stT (Rc.rT (Bit.strB (Bit.pack B))) ((a.length, 0), g) = (((a ++ (Bit.enc 7 d.size ++ Bit.textBits d.data.toList)).length, 0), { g with d := d }) := by
  have hB1 : B = a ++ Bit.enc 7 d.size ++ (Bit.textBits d.data.toList ++ r) := by rw [hB]; simp only [List.append_assoc]
  have hB2 : B = (a ++ Bit.enc 7 d.size) ++ Bit.textBits d.data.toList ++ r := by rw [hB]; simp only [List.append_assoc]
  have h := Bit.rnum_mid (a := a) (e := Bit.enc 7 d.size) (r := Bit.textBits d.data.toList ++ r) (l := 1) (wd := 7) (by rwa [← hB1]) (by omega) (by omega) (by simp [Bit.enc_length]) (by omega)
  rw [← hB1] at h
  have hv := Bit.val_enc 7 (d.size : Int)
  rw [Int.emod_eq_of_lt (by omega) (by omega)] at hv
  have hv' : Bit.val (Bit.enc 7 d.size) = d.size := by omega
  rw [hv'] at h
  have hl : (Bit.textBits d.data.toList).length = 8 * d.size := text_len d
  have hm := Bit.sbits_mid (a := a ++ Bit.enc 7 d.size) (e := Bit.textBits d.data.toList) (r := r) (by rwa [← hB2])
  have hr := @Bit.room_mid (a ++ Bit.enc 7 d.size) (Bit.textBits d.data.toList) r
  rw [← hB2] at hm hr
  rw [hl, List.length_append, Bit.enc_length] at hm hr
  have ht := Bit.rbytes_text (S := Bit.strB (Bit.pack B)) d.data.toList (a.length + 7) (by rw [Bit.data_len]; exact hm)
  rw [Bit.data_len] at ht
  unfold stT Rc.rT Bit.rtext
  simp only
  rw [if_neg (by simp), if_neg (by omega), wid127]
  have h7 : ((7 : Nat) : Int) = 7 := rfl
  rw [h7, h]
  simp only
  rw [if_neg (by simp), if_neg (by omega), if_neg (by omega)]
  have e7 : (7 : Int).toNat = 7 := rfl
  rw [e7, ht, strB_toNat]
  simp [Bit.enc_length, hl]
  omega
theorem ite_bits {p : Prop} [Decidable p] {a b : List Nat} (ha : Bit.Bits a) (hb : Bit.Bits b) : Bit.Bits (if p then a else b) := by split; exact ha; exact hb
theorem frame_bits (f : Fr) : Bit.Bits (headL f ++ ownL f) := by
  have e := Bit.enc_bits
  have t := textBits_Bits f.d.data.toList
  refine Bit.Bits.append ?_ ?_
  · unfold headL
    exact (((((e _ _).append (e _ _)).append (ite_bits (e _ _) ((e _ _).append (e _ _)))).append (e _ _)).append (e _ _))
  · unfold ownL
    exact ite_bits ((((e _ _).append (e _ _)).append (e _ _)).append t) (ite_bits (e _ _) (ite_bits (((((e _ _).append (e _ _)).append (e _ _)).append (e _ _)).append t) ((e _ _).append t)))
/-- The head of a frame is read. -/
theorem head_at {f : Fr} (h : Ok f) (S : ByteArray) (hS : S = Bit.strB (Bit.pack (headL f ++ ownL f))) :
    stU (Rc.rU S) 4 8 (stU (Rc.rU S) 3 8 (stG (Rc.rU S) (stU (Rc.rU S) 1 5 (stU (Rc.rU S) 0 3 ((0, 0), fr0))))) = (((headL f).length, 0), ⟨f.k, f.s, f.t, f.l, f.q, 0, 0, 0, 0, 0, 0, ⟨#[]⟩⟩) := by
  have hb := frame_bits f
  obtain ⟨k, s, t, l, q, fl, n, e, sl, r, ep, d⟩ := f
  unfold Ok at h
  dsimp only at h ⊢
  generalize hW : ownL ⟨k, s, t, l, q, fl, n, e, sl, r, ep, d⟩ = W at *
  generalize hBB : headL ⟨k, s, t, l, q, fl, n, e, sl, r, ep, d⟩ ++ W = B at *
  subst hS
  have hB := hBB.symm
  unfold headL at hB ⊢
  dsimp only at hB ⊢
  by_cases ht : t = -1
  · rw [if_pos ht] at hB ⊢
    have e0 := stU_at (a := []) (r := Bit.enc 5 s ++ (Bit.enc 1 0 ++ (Bit.enc 8 l ++ (Bit.enc 8 q ++ W)))) hb 0 3 (W := 3) rfl k (by rw [hB]; simp only [List.append_assoc, List.nil_append]) (by decide) (by decide) (by omega) (by omega) fr0
    rw [show (([] : List Nat).length) = 0 from rfl] at e0
    rw [e0, List.nil_append]
    have e1 := stU_at (a := Bit.enc 3 k) (r := (Bit.enc 1 0 ++ (Bit.enc 8 l ++ (Bit.enc 8 q ++ W)))) hb 1 5 (W := 5) rfl s (by rw [hB]; simp only [List.append_assoc]) (by decide) (by decide) (by omega) (by omega) (fr0.set 0 k)
    rw [e1]
    have e2 := U_at (a := Bit.enc 3 k ++ Bit.enc 5 s) (r := (Bit.enc 8 l ++ (Bit.enc 8 q ++ W))) hb 1 (W := 1) rfl 0 (by rw [hB]; simp only [List.append_assoc]) (by decide) (by decide) (by omega) (by omega)
    unfold stG
    simp only [e2]
    rw [if_neg (by decide)]
    have e3 := stU_at (a := Bit.enc 3 k ++ Bit.enc 5 s ++ Bit.enc 1 0) (r := (Bit.enc 8 q ++ W)) hb 3 8 (W := 8) rfl l (by rw [hB]; simp only [List.append_assoc]) (by decide) (by decide) (by omega) (by omega) { (fr0.set 0 k).set 1 s with t := -1 }
    rw [e3]
    have e4 := stU_at (a := Bit.enc 3 k ++ Bit.enc 5 s ++ Bit.enc 1 0 ++ Bit.enc 8 l) (r := W) hb 4 8 (W := 8) rfl q (by rw [hB]) (by decide) (by decide) (by omega) (by omega) ({ (fr0.set 0 k).set 1 s with t := -1 }.set 3 l)
    rw [e4, ht]
    rfl
  · rw [if_neg ht] at hB ⊢
    have e0 := stU_at (a := []) (r := Bit.enc 5 s ++ (Bit.enc 1 1 ++ (Bit.enc 5 t ++ (Bit.enc 8 l ++ (Bit.enc 8 q ++ W))))) hb 0 3 (W := 3) rfl k (by rw [hB]; simp only [List.append_assoc, List.nil_append]) (by decide) (by decide) (by omega) (by omega) fr0
    rw [show (([] : List Nat).length) = 0 from rfl] at e0
    rw [e0, List.nil_append]
    have e1 := stU_at (a := Bit.enc 3 k) (r := (Bit.enc 1 1 ++ (Bit.enc 5 t ++ (Bit.enc 8 l ++ (Bit.enc 8 q ++ W))))) hb 1 5 (W := 5) rfl s (by rw [hB]; simp only [List.append_assoc]) (by decide) (by decide) (by omega) (by omega) (fr0.set 0 k)
    rw [e1]
    have e2 := U_at (a := Bit.enc 3 k ++ Bit.enc 5 s) (r := (Bit.enc 5 t ++ (Bit.enc 8 l ++ (Bit.enc 8 q ++ W)))) hb 1 (W := 1) rfl 1 (by rw [hB]; simp only [List.append_assoc]) (by decide) (by decide) (by omega) (by omega)
    unfold stG
    simp only [e2]
    rw [if_pos trivial]
    have e2b := stU_at (a := Bit.enc 3 k ++ Bit.enc 5 s ++ Bit.enc 1 1) (r := (Bit.enc 8 l ++ (Bit.enc 8 q ++ W))) hb 2 5 (W := 5) rfl t (by rw [hB]; simp only [List.append_assoc]) (by decide) (by decide) (by omega) (by omega) ((fr0.set 0 k).set 1 s)
    rw [e2b]
    have e3 := stU_at (a := Bit.enc 3 k ++ Bit.enc 5 s ++ Bit.enc 1 1 ++ Bit.enc 5 t) (r := (Bit.enc 8 q ++ W)) hb 3 8 (W := 8) rfl l (by rw [hB]; simp only [List.append_assoc]) (by decide) (by decide) (by omega) (by omega) (((fr0.set 0 k).set 1 s).set 2 t)
    rw [e3]
    have e4 := stU_at (a := Bit.enc 3 k ++ Bit.enc 5 s ++ Bit.enc 1 1 ++ Bit.enc 5 t ++ Bit.enc 8 l) (r := W) hb 4 8 (W := 8) rfl q (by rw [hB]; simp only [List.append_assoc]) (by decide) (by decide) (by omega) (by omega) ((((fr0.set 0 k).set 1 s).set 2 t).set 3 l)
    rw [e4]
    simp only [List.append_assoc]
    rfl
theorem back {f : Fr} (h : Ok f) (hd : f.d.size ≤ 127) : rdX (Bit.strB (Bit.pack (headL f ++ ownL f))) = (((headL f ++ ownL f).length, 0), f) := by
  unfold rdX stAll
  rw [head_at h _ rfl]
  have hb := frame_bits f
  have hk := ok_kind h
  generalize hH : headL f = H at *
  generalize hBB : H ++ ownL f = B at *
  have hB := hBB.symm
  unfold ownL at hB
  unfold Ok at h
  obtain ⟨k, s, t, l, q, fl, n, e, sl, r, ep, d⟩ := f
  dsimp only at h hd hk hB ⊢
  unfold stOwn
  simp only
  rcases hk with rfl | rfl | rfl | rfl
  · rw [if_pos rfl] at hB ⊢
    have e1 := stU_at (a := H) (r := Bit.enc 16 n ++ (Bit.enc 7 d.size ++ Bit.textBits d.data.toList)) hb 5 8 (W := 8) rfl fl (by rw [hB]; simp only [List.append_assoc]) (by decide) (by decide) (by omega) (by omega) ⟨1, s, t, l, q, 0, 0, 0, 0, 0, 0, ⟨#[]⟩⟩
    rw [e1]
    have e2 := stU_at (a := H ++ Bit.enc 8 fl) (r := (Bit.enc 7 d.size ++ Bit.textBits d.data.toList)) hb 6 16 (W := 16) rfl n (by rw [hB]; simp only [List.append_assoc]) (by decide) (by decide) (by omega) (by omega) (Fr.set ⟨1, s, t, l, q, 0, 0, 0, 0, 0, 0, ⟨#[]⟩⟩ 5 fl)
    rw [e2]
    have e3 := stT_at (a := H ++ Bit.enc 8 fl ++ Bit.enc 16 n) (r := []) hb d hd (by rw [hB]; simp only [List.append_assoc, List.append_nil]) ((Fr.set ⟨1, s, t, l, q, 0, 0, 0, 0, 0, 0, ⟨#[]⟩⟩ 5 fl).set 6 n)
    rw [e3, show H ++ Bit.enc 8 fl ++ Bit.enc 16 n ++ (Bit.enc 7 d.size ++ Bit.textBits d.data.toList) = B by rw [hB]; simp only [List.append_assoc]]
    obtain ⟨rfl, rfl, rfl, rfl⟩ : e = 0 ∧ sl = 0 ∧ r = 0 ∧ ep = 0 := by omega
    rfl
  · rw [if_neg (by decide), if_pos rfl] at hB ⊢
    have e1 := stS_at (a := H) (r := []) hb e (by rw [hB]; simp only [List.append_nil]) (by omega) (by omega) ⟨2, s, t, l, q, 0, 0, 0, 0, 0, 0, ⟨#[]⟩⟩
    rw [e1, ← hB]
    obtain ⟨rfl, rfl, rfl, rfl, rfl, h0⟩ : fl = 0 ∧ n = 0 ∧ sl = 0 ∧ r = 0 ∧ ep = 0 ∧ d.size = 0 := by omega
    have h1 : d = ⟨#[]⟩ := by cases d with | mk a => simp only [ByteArray.size] at h0; rw [Array.eq_empty_of_size_eq_zero h0]
    rw [h1]
  · rw [if_neg (by decide), if_neg (by decide), if_pos rfl] at hB ⊢
    have e1 := stU_at (a := H) (r := Bit.enc 16 r ++ (Bit.enc 16 ep ++ (Bit.enc 7 d.size ++ Bit.textBits d.data.toList))) hb 8 27 (W := 27) rfl sl (by rw [hB]; simp only [List.append_assoc]) (by decide) (by decide) (by omega) (by omega) ⟨3, s, t, l, q, 0, 0, 0, 0, 0, 0, ⟨#[]⟩⟩
    rw [e1]
    have e2 := stU_at (a := H ++ Bit.enc 27 sl) (r := (Bit.enc 16 ep ++ (Bit.enc 7 d.size ++ Bit.textBits d.data.toList))) hb 9 16 (W := 16) rfl r (by rw [hB]; simp only [List.append_assoc]) (by decide) (by decide) (by omega) (by omega) (Fr.set ⟨3, s, t, l, q, 0, 0, 0, 0, 0, 0, ⟨#[]⟩⟩ 8 sl)
    rw [e2]
    have e2b := stU_at (a := H ++ Bit.enc 27 sl ++ Bit.enc 16 r) (r := (Bit.enc 7 d.size ++ Bit.textBits d.data.toList)) hb 10 16 (W := 16) rfl ep (by rw [hB]; simp only [List.append_assoc]) (by decide) (by decide) (by omega) (by omega) ((Fr.set ⟨3, s, t, l, q, 0, 0, 0, 0, 0, 0, ⟨#[]⟩⟩ 8 sl).set 9 r)
    rw [e2b]
    have e3 := stT_at (a := H ++ Bit.enc 27 sl ++ Bit.enc 16 r ++ Bit.enc 16 ep) (r := []) hb d hd (by rw [hB]; simp only [List.append_assoc, List.append_nil]) (((Fr.set ⟨3, s, t, l, q, 0, 0, 0, 0, 0, 0, ⟨#[]⟩⟩ 8 sl).set 9 r).set 10 ep)
    rw [e3, show H ++ Bit.enc 27 sl ++ Bit.enc 16 r ++ Bit.enc 16 ep ++ (Bit.enc 7 d.size ++ Bit.textBits d.data.toList) = B by rw [hB]; simp only [List.append_assoc]]
    obtain ⟨rfl, rfl, rfl⟩ : fl = 0 ∧ n = 0 ∧ e = 0 := by omega
    rfl
  · rw [if_neg (by decide), if_neg (by decide), if_neg (by decide)] at hB
    rw [if_neg (by decide), if_neg (by decide), if_neg (by decide), if_pos rfl]
    have e3 := stT_at (a := H) (r := []) hb d hd (by rw [hB]; simp only [List.append_nil]) ⟨4, s, t, l, q, 0, 0, 0, 0, 0, 0, ⟨#[]⟩⟩
    rw [e3, ← hB]
    obtain ⟨rfl, rfl, rfl, rfl, rfl, rfl⟩ : fl = 0 ∧ n = 0 ∧ e = 0 ∧ sl = 0 ∧ r = 0 ∧ ep = 0 := by omega
    rfl
theorem cut_prot (S : ByteArray) : cut (Cr.prot S) = (S, 0) := by
  unfold cut
  have hz := Cr.prot_size S
  rw [if_neg (by omega), if_neg (by rw [Cr.syn_prot]; simp), show (Cr.prot S).size - 2 = S.size by omega, Cr.prot_front]
theorem decR_back {f : Fr} (h : Ok f) (hf : fits f) : decR (Cr.prot (Bit.wbytes (headL f ++ ownL f, 0))) = (f, 0) := by
  have hd : f.d.size ≤ 127 := by
    unfold fits at hf
    have := nBase_ge f
    by_cases hk : f.k = 2
    · unfold Ok at h; omega
    · rw [if_neg hk] at hf; omega
  have hw : Bit.wbytes (headL f ++ ownL f, 0) = Bit.strB (Bit.pack (headL f ++ ownL f)) := by unfold Bit.wbytes; rw [if_neg (by simp)]
  have hz : (Cr.prot (Bit.wbytes (headL f ++ ownL f, 0))).size ≤ 127 := by
    have := wbytes_size (headL f ++ ownL f, 0) rfl
    rw [Cr.prot_size, this]
    simp only
    rw [bits_len h]
    unfold fits at hf
    omega
  unfold decR
  rw [if_neg (by omega), cut_prot, if_neg (by simp)]
  simp only
  rw [hw, back h hd]
  simp only
  rw [if_pos ⟨Bit.back_end (frame_bits f), (okB_iff f).2 h⟩]
end Go.Proofs.Ytilpbbpdchbdfaa

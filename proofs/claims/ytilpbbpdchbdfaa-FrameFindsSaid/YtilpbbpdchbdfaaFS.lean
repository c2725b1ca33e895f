/- Plain facts on a frame's bits. -/
import Derived.Test.YtilpbbpdchbdfaaFE2
namespace Go.Proofs.Ytilpbbpdchbdfaa
open Go.RowKit

theorem stU_w (i : Nat) (hi : i < 11) (wd : Int) (st : List Nat × Int) (f : Fr) : stU Wc.wU i wd (st, f) = (Bit.wuns wd (f.get i) st, f) := by
  unfold stU Wc.wU
  simp only [set_get f i hi]
theorem stG_w (st : List Nat × Int) (f : Fr) : stG Wc.wU (st, f) = (if f.t = -1 then Bit.wuns 1 0 st else Bit.wuns 5 f.t (Bit.wuns 1 1 st), f) := by
  unfold stG
  by_cases h : f.t = -1
  · rw [if_pos h, if_pos h]
    unfold Wc.wU
    simp only
    rw [if_neg (by decide)]
    congr 1
    obtain ⟨k, s, t, l, q, fl, n, e, sl, r, ep, d⟩ := f
    simp only at h
    rw [h]
  · rw [if_neg h, if_neg h]
    unfold Wc.wU
    simp only
    rw [if_pos trivial]
    exact stU_w 2 (by decide) 5 _ f
/-- The bits ahead of a kind's own fields. -/
def wHead (f : Fr) : List Nat × Int := Bit.wuns 8 f.q (Bit.wuns 8 f.l (if f.t = -1 then Bit.wuns 1 0 (Bit.wuns 5 f.s (Bit.wuns 3 f.k ([], 0))) else Bit.wuns 5 f.t (Bit.wuns 1 1 (Bit.wuns 5 f.s (Bit.wuns 3 f.k ([], 0))))))
def wOwn (f : Fr) (st : List Nat × Int) : List Nat × Int :=
  if f.k = 1 then Bit.wtext 127 f.d (Bit.wuns 16 f.n (Bit.wuns 8 f.fl st)) else if f.k = 2 then Bit.wsig 16 f.e st else if f.k = 3 then Bit.wtext 127 f.d (Bit.wuns 16 f.ep (Bit.wuns 16 f.r (Bit.wuns 27 f.sl st))) else if f.k = 4 then Bit.wtext 127 f.d st else st
theorem wst_eq (f : Fr) : wst f = wOwn f (wHead f) := by
  unfold wst stAll
  rw [stU_w 0 (by decide), stU_w 1 (by decide), stG_w, stU_w 3 (by decide), stU_w 4 (by decide)]
  show (stOwn Wc.wU Wc.wS Wc.wT (wHead f, f)).1 = _
  generalize wHead f = st
  unfold stOwn wOwn
  simp only
  split
  · rw [stU_w 5 (by decide), stU_w 6 (by decide)]; rfl
  · split
    · rfl
    · split
      · rw [stU_w 8 (by decide), stU_w 9 (by decide), stU_w 10 (by decide)]; rfl
      · split <;> rfl
theorem wuns_in (wd : Nat) {W : Int} (hW : W = wd) (x : Int) (bs : List Nat) (h1 : 1 ≤ wd) (h2 : wd ≤ 63) (h3 : 0 ≤ x) (h4 : x < 2 ^ wd) (h5 : bs.length + wd ≤ 524288) : Bit.wuns W x (bs, 0) = (bs ++ Bit.enc wd x, 0) := by
  subst hW
  unfold Bit.wuns
  rw [if_neg (by simp), if_neg (by omega), if_neg (by simp; omega), if_neg (by simp; omega)]
  simp
theorem wsig_in (wd : Nat) {W : Int} (hW : W = wd) (x : Int) (bs : List Nat) (h1 : 2 ≤ wd) (h2 : wd ≤ 63) (h3 : -2 ^ (wd - 1) ≤ x) (h4 : x < 2 ^ (wd - 1)) (h5 : bs.length + wd ≤ 524288) : Bit.wsig W x (bs, 0) = (bs ++ Bit.enc wd x, 0) := by
  subst hW
  unfold Bit.wsig
  rw [if_neg (by simp), if_neg (by omega), if_neg (by simp; omega), if_neg (by simp; omega)]
  simp
theorem wid127 : Bit.wid 127 = 7 := by decide +kernel
theorem wtext_in (s : ByteArray) (bs : List Nat) (h : s.size ≤ 127) (h5 : bs.length ≤ 500000) : Bit.wtext 127 s (bs, 0) = (bs ++ Bit.enc 7 s.size ++ Bit.textBits s.data.toList, 0) := by
  unfold Bit.wtext
  rw [if_neg (by simp), if_neg (by omega), wid127, if_neg (by simp only; omega)]
theorem wtext_out (s : ByteArray) (bs : List Nat) (h : 127 < s.size) : Bit.wtext 127 s (bs, 0) = (bs, 8) := by
  unfold Bit.wtext
  rw [if_neg (by simp), if_neg (by omega), if_pos (by simp only; omega)]
/-- The bits of a valid frame ahead of its kind's own fields. -/
def headL (f : Fr) : List Nat := Bit.enc 3 f.k ++ Bit.enc 5 f.s ++ (if f.t = -1 then Bit.enc 1 0 else Bit.enc 1 1 ++ Bit.enc 5 f.t) ++ Bit.enc 8 f.l ++ Bit.enc 8 f.q
def nHead (f : Fr) : Nat := if f.t = -1 then 25 else 30
theorem headL_len (f : Fr) : (headL f).length = nHead f := by
  unfold headL nHead
  split <;> simp [Bit.enc_length]
theorem wHead_eq {f : Fr} (h : Ok f) : wHead f = (headL f, 0) := by
  obtain ⟨k, s, t, l, q, fl, n, e, sl, r, ep, d⟩ := f
  unfold Ok at h
  unfold wHead headL
  dsimp only at h ⊢
  have e1 := wuns_in 3 (W := 3) rfl k [] (by decide) (by decide) (by omega) (by omega) (by simp)
  have e2 := wuns_in 5 (W := 5) rfl s (Bit.enc 3 k) (by decide) (by decide) (by omega) (by omega) (by simp [Bit.enc_length])
  rw [List.nil_append] at e1
  rw [e1, e2]
  by_cases ht : t = -1
  · rw [if_pos ht, if_pos ht]
    have e3 := wuns_in 1 (W := 1) rfl 0 (Bit.enc 3 k ++ Bit.enc 5 s) (by decide) (by decide) (by omega) (by omega) (by simp [Bit.enc_length])
    have e4 := wuns_in 8 (W := 8) rfl l (Bit.enc 3 k ++ Bit.enc 5 s ++ Bit.enc 1 0) (by decide) (by decide) (by omega) (by omega) (by simp [Bit.enc_length])
    have e5 := wuns_in 8 (W := 8) rfl q (Bit.enc 3 k ++ Bit.enc 5 s ++ Bit.enc 1 0 ++ Bit.enc 8 l) (by decide) (by decide) (by omega) (by omega) (by simp [Bit.enc_length])
    rw [e3, e4, e5]
  · rw [if_neg ht, if_neg ht]
    have e3 := wuns_in 1 (W := 1) rfl 1 (Bit.enc 3 k ++ Bit.enc 5 s) (by decide) (by decide) (by omega) (by omega) (by simp [Bit.enc_length])
    have e3b := wuns_in 5 (W := 5) rfl t (Bit.enc 3 k ++ Bit.enc 5 s ++ Bit.enc 1 1) (by decide) (by decide) (by omega) (by omega) (by simp [Bit.enc_length])
    have e4 := wuns_in 8 (W := 8) rfl l (Bit.enc 3 k ++ Bit.enc 5 s ++ Bit.enc 1 1 ++ Bit.enc 5 t) (by decide) (by decide) (by omega) (by omega) (by simp [Bit.enc_length])
    have e5 := wuns_in 8 (W := 8) rfl q (Bit.enc 3 k ++ Bit.enc 5 s ++ Bit.enc 1 1 ++ Bit.enc 5 t ++ Bit.enc 8 l) (by decide) (by decide) (by omega) (by omega) (by simp [Bit.enc_length])
    rw [e3, e3b, e4, e5]
    simp only [List.append_assoc]
/-- How many bits a valid frame has without its data. -/
def nBase (f : Fr) : Nat := nHead f + (if f.k = 1 then 31 else if f.k = 2 then 16 else if f.k = 3 then 66 else 7)
/-- The bits of a valid frame's own fields. -/
def ownL (f : Fr) : List Nat :=
  if f.k = 1 then Bit.enc 8 f.fl ++ Bit.enc 16 f.n ++ Bit.enc 7 f.d.size ++ Bit.textBits f.d.data.toList
  else if f.k = 2 then Bit.enc 16 f.e
  else if f.k = 3 then Bit.enc 27 f.sl ++ Bit.enc 16 f.r ++ Bit.enc 16 f.ep ++ Bit.enc 7 f.d.size ++ Bit.textBits f.d.data.toList
  else Bit.enc 7 f.d.size ++ Bit.textBits f.d.data.toList
theorem text_len (d : ByteArray) : (Bit.textBits d.data.toList).length = 8 * d.size := by rw [Bit.textBits_length, Bit.data_len]
theorem ok_kind {f : Fr} (h : Ok f) : f.k = 1 ∨ f.k = 2 ∨ f.k = 3 ∨ f.k = 4 := by unfold Ok at h; omega
theorem nHead_le (f : Fr) : nHead f ≤ 30 ∧ 25 ≤ nHead f := by unfold nHead; split <;> omega
theorem wst_ok {f : Fr} (h : Ok f) (hd : f.d.size ≤ 127) : wst f = (headL f ++ ownL f, 0) := by
  rw [wst_eq, wHead_eq h]
  have hl := headL_len f
  have hn := (nHead_le f).1
  generalize headL f = H at *
  unfold wOwn ownL
  have hk := ok_kind h
  unfold Ok at h
  rcases hk with hk | hk | hk | hk
  · rw [if_pos hk, if_pos hk]
    have e1 := wuns_in 8 (W := 8) rfl f.fl H (by decide) (by decide) (by omega) (by omega) (by omega)
    have e2 := wuns_in 16 (W := 16) rfl f.n (H ++ Bit.enc 8 f.fl) (by decide) (by decide) (by omega) (by omega) (by simp [Bit.enc_length]; omega)
    have e3 := wtext_in f.d (H ++ Bit.enc 8 f.fl ++ Bit.enc 16 f.n) hd (by simp [Bit.enc_length]; omega)
    rw [e1, e2, e3]
    simp only [List.append_assoc]
  · rw [if_neg (by omega), if_pos hk, if_neg (by omega), if_pos hk]
    have e1 := wsig_in 16 (W := 16) rfl f.e H (by decide) (by decide) (by omega) (by omega) (by omega)
    rw [e1]
  · rw [if_neg (by omega), if_neg (by omega), if_pos hk, if_neg (by omega), if_neg (by omega), if_pos hk]
    have e1 := wuns_in 27 (W := 27) rfl f.sl H (by decide) (by decide) (by omega) (by omega) (by omega)
    have e2 := wuns_in 16 (W := 16) rfl f.r (H ++ Bit.enc 27 f.sl) (by decide) (by decide) (by omega) (by omega) (by simp [Bit.enc_length]; omega)
    have e3 := wuns_in 16 (W := 16) rfl f.ep (H ++ Bit.enc 27 f.sl ++ Bit.enc 16 f.r) (by decide) (by decide) (by omega) (by omega) (by simp [Bit.enc_length]; omega)
    have e4 := wtext_in f.d (H ++ Bit.enc 27 f.sl ++ Bit.enc 16 f.r ++ Bit.enc 16 f.ep) hd (by simp [Bit.enc_length]; omega)
    rw [e1, e2, e3, e4]
    simp only [List.append_assoc]
  · rw [if_neg (by omega), if_neg (by omega), if_neg (by omega), if_pos hk, if_neg (by omega), if_neg (by omega), if_neg (by omega)]
    have e4 := wtext_in f.d H hd (by omega)
    rw [e4]
    simp only [List.append_assoc]
theorem bits_len {f : Fr} (h : Ok f) : (headL f ++ ownL f).length = nBase f + (if f.k = 2 then 0 else 8 * f.d.size) := by
  rw [List.length_append, headL_len]
  unfold ownL nBase
  have hk := ok_kind h
  rcases hk with hk | hk | hk | hk
  · simp [hk, Bit.enc_length, text_len]; omega
  · simp [hk, Bit.enc_length]
  · simp [hk, Bit.enc_length, text_len]; omega
  · simp [hk, Bit.enc_length, text_len]; omega
theorem wst_long {f : Fr} (h : Ok f) (hd : 127 < f.d.size) : (wst f).2 ≠ 0 := by
  rw [wst_eq, wHead_eq h]
  have hl := headL_len f
  have hn := (nHead_le f).1
  generalize headL f = H at *
  unfold wOwn
  have hk := ok_kind h
  unfold Ok at h
  rcases hk with hk | hk | hk | hk
  · rw [if_pos hk]
    have e1 := wuns_in 8 (W := 8) rfl f.fl H (by decide) (by decide) (by omega) (by omega) (by omega)
    have e2 := wuns_in 16 (W := 16) rfl f.n (H ++ Bit.enc 8 f.fl) (by decide) (by decide) (by omega) (by omega) (by simp [Bit.enc_length]; omega)
    rw [e1, e2, wtext_out _ _ hd]
    simp
  · omega
  · rw [if_neg (by omega), if_neg (by omega), if_pos hk]
    have e1 := wuns_in 27 (W := 27) rfl f.sl H (by decide) (by decide) (by omega) (by omega) (by omega)
    have e2 := wuns_in 16 (W := 16) rfl f.r (H ++ Bit.enc 27 f.sl) (by decide) (by decide) (by omega) (by omega) (by simp [Bit.enc_length]; omega)
    have e3 := wuns_in 16 (W := 16) rfl f.ep (H ++ Bit.enc 27 f.sl ++ Bit.enc 16 f.r) (by decide) (by decide) (by omega) (by omega) (by simp [Bit.enc_length]; omega)
    rw [e1, e2, e3, wtext_out _ _ hd]
    simp
  · rw [if_neg (by omega), if_neg (by omega), if_neg (by omega), if_pos hk, wtext_out _ _ hd]
    simp
/-- Whether a valid frame can be sent. -/
def fits (f : Fr) : Prop := nBase f + (if f.k = 2 then 0 else 8 * f.d.size) ≤ 1000
theorem nBase_ge (f : Fr) : 32 ≤ nBase f := by
  have := (nHead_le f).2
  unfold nBase
  split
  · omega
  · split
    · omega
    · split <;> omega
theorem wrR_fit {f : Fr} (h : Ok f) (hf : fits f) : wrR f = (Bit.wbytes (headL f ++ ownL f, 0), nBase f + (if f.k = 2 then 0 else 8 * f.d.size), 0) := by
  have hd : f.d.size ≤ 127 := by
    unfold fits at hf
    have := nBase_ge f
    by_cases hk : f.k = 2
    · unfold Ok at h; omega
    · rw [if_neg hk] at hf; omega
  unfold wrR
  rw [wst_ok h hd, if_neg (by simp only; rw [bits_len h]; unfold fits at hf; omega)]
  simp only [bits_len h]
theorem wrR_not {f : Fr} (h : Ok f) (hf : ¬ fits f) : wrR f = (⟨#[]⟩, 0, 8) := by
  unfold wrR
  rw [if_pos]
  by_cases hd : f.d.size ≤ 127
  · rw [wst_ok h hd]
    right
    simp only
    rw [bits_len h]
    unfold fits at hf
    omega
  · exact .inl (wst_long h (by omega))
/-- What is sent: a valid frame that fits. -/
theorem encR_cases (f : Fr) : ((encR f).2 ≠ 0 ∧ (encR f).1 = ⟨#[]⟩ ∧ ((encR f).2 = 1 ↔ okB f = false) ∧ (¬ Ok f ∨ ¬ fits f)) ∨ (Ok f ∧ fits f ∧ encR f = (Cr.prot (Bit.wbytes (headL f ++ ownL f, 0)), 0)) := by
  unfold encR
  cases ho : okB f with
  | false =>
    left
    rw [if_neg (by simp)]
    refine ⟨by decide, rfl, by simp, .inl ?_⟩
    rw [← okB_iff, ho]
    decide
  | true =>
    have h := (okB_iff f).1 ho
    rw [if_pos rfl]
    by_cases hf : fits f
    · right
      rw [wrR_fit h hf]
      exact ⟨h, hf, rfl⟩
    · left
      rw [wrR_not h hf]
      exact ⟨by decide, rfl, by simp, .inr hf⟩
end Go.Proofs.Ytilpbbpdchbdfaa

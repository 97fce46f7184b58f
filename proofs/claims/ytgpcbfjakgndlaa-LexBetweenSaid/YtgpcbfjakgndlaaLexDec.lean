/-
  What a row of bytes begins with, as a character: its number, how many bytes it has, whether it is a valid encoding. No program; no condition but those of each theorem.
-/
import Derived.Test.YtgpcbfjakgndlaaOctRef
import Derived.Lib.DecodeN
namespace Go.Proofs.Ytgpcbfjakgndlaa
set_option linter.unusedSimpArgs false

theorem get_txt (s : List UInt8) (n : Nat) : (txt s).get! n = s.getD n 0 := by
  unfold ByteArray.get! txt
  simp [List.getD]
  rfl
/-- The character at the front. -/
def dc (s : List UInt8) : Nat × Nat := Utf8.decode (txt s) 0
theorem dec_at (s : List UInt8) (i : Nat) (h : i ≤ s.length) : Utf8.decode (txt s) i = dc (s.drop i) := by
  unfold dc Utf8.decode
  have e : ∀ k, (txt s).get! (i + k) = (txt (s.drop i)).get! (0 + k) := fun k => by
    rw [get_txt, get_txt, Nat.zero_add]
    simp [List.getD]
  have e2 : ∀ k, decide (i + k < (txt s).size) = decide (0 + k < (txt (s.drop i)).size) := fun k => by
    rw [txt_size, txt_size, List.length_drop]
    congr 1
    apply propext
    omega
  simp only [e, e2]

def byteAt (s : List UInt8) (k : Nat) : Nat := (s.getD k 0).toNat
theorem dc_eq (s : List UInt8) : dc s = Lib.decodeN s.length (byteAt s 0) (byteAt s 1) (byteAt s 2) (byteAt s 3) := by
  have e := Lib.decode_at (txt s) 0
  simp only [Nat.zero_add, Nat.sub_zero, txt_size, get_txt] at e
  exact e
def surr (c : Nat) : Prop := c < 55296 ∨ (57344 ≤ c ∧ c ≤ 1114111)
def V2 (a b : UInt8) : Prop := a.toNat / 32 = 6 ∧ b.toNat / 64 = 2 ∧ 128 ≤ a.toNat % 32 * 64 + b.toNat % 64
def V3 (a b c : UInt8) : Prop := a.toNat / 16 = 14 ∧ b.toNat / 64 = 2 ∧ c.toNat / 64 = 2 ∧ 2048 ≤ a.toNat % 16 * 4096 + b.toNat % 64 * 64 + c.toNat % 64 ∧ surr (a.toNat % 16 * 4096 + b.toNat % 64 * 64 + c.toNat % 64)
def V4 (a b c d : UInt8) : Prop := a.toNat / 8 = 30 ∧ b.toNat / 64 = 2 ∧ c.toNat / 64 = 2 ∧ d.toNat / 64 = 2 ∧ 65536 ≤ a.toNat % 8 * 262144 + b.toNat % 64 * 4096 + c.toNat % 64 * 64 + d.toNat % 64 ∧ surr (a.toNat % 8 * 262144 + b.toNat % 64 * 4096 + c.toNat % 64 * 64 + d.toNat % 64)

theorem dc_one {a : UInt8} (r : List UInt8) (h : a.toNat < 128) : dc (a :: r) = (a.toNat, 1) := by
  rw [dc_eq]
  unfold Lib.decodeN
  exact if_pos h
theorem dc_two {a b : UInt8} (r : List UInt8) (h : V2 a b) : dc (a :: b :: r) = (a.toNat % 32 * 64 + b.toNat % 64, 2) := by
  obtain ⟨h1, h2, h3⟩ := h
  have ha : ¬ a.toNat < 128 := by omega
  rw [dc_eq]
  show Lib.decodeN _ a.toNat b.toNat _ _ = _
  unfold Lib.decodeN
  rw [if_neg ha, if_pos ⟨h1, by simp, h2⟩, if_pos h3]
theorem dc_three {a b c : UInt8} (r : List UInt8) (h : V3 a b c) : dc (a :: b :: c :: r) = (a.toNat % 16 * 4096 + b.toNat % 64 * 64 + c.toNat % 64, 3) := by
  obtain ⟨h1, h2, h3, h4, h5⟩ := h
  have ha : ¬ a.toNat < 128 := by omega
  rw [dc_eq]
  show Lib.decodeN _ a.toNat b.toNat c.toNat _ = _
  unfold Lib.decodeN
  rw [if_neg ha, if_neg (by omega), if_pos ⟨h1, ⟨by simp, h2⟩, by simp, h3⟩, if_pos ⟨h4, h5⟩]
theorem dc_four {a b c d : UInt8} (r : List UInt8) (h : V4 a b c d) : dc (a :: b :: c :: d :: r) = (a.toNat % 8 * 262144 + b.toNat % 64 * 4096 + c.toNat % 64 * 64 + d.toNat % 64, 4) := by
  obtain ⟨h1, h2, h3, h4, h5, h6⟩ := h
  have ha : ¬ a.toNat < 128 := by omega
  rw [dc_eq]
  show Lib.decodeN _ a.toNat b.toNat c.toNat d.toNat = _
  unfold Lib.decodeN
  rw [if_neg ha, if_neg (by omega), if_neg (by omega), if_pos ⟨h1, ⟨by simp, h2⟩, ⟨by simp, h3⟩, by simp, h4⟩, if_pos ⟨h5, h6⟩]

/-- The front is no valid encoding. -/
def NoV (s : List UInt8) : Prop := (∀ a r, s = a :: r → 128 ≤ a.toNat) ∧ (∀ a b r, s = a :: b :: r → ¬ V2 a b) ∧ (∀ a b c r, s = a :: b :: c :: r → ¬ V3 a b c) ∧ (∀ a b c d r, s = a :: b :: c :: d :: r → ¬ V4 a b c d)
theorem dc_none {s : List UInt8} (h0 : s ≠ []) (h : NoV s) : dc s = (65533, 1) := by
  obtain ⟨h1, h2, h3, h4⟩ := h
  obtain ⟨a, r, rfl⟩ := List.exists_cons_of_ne_nil h0
  have ha : ¬ a.toNat < 128 := by have := h1 a r rfl; omega
  rw [dc_eq]
  show Lib.decodeN _ a.toNat (byteAt (a :: r) 1) (byteAt (a :: r) 2) (byteAt (a :: r) 3) = _
  unfold Lib.decodeN
  rw [if_neg ha]
  rcases r with _ | ⟨b, r⟩
  · rw [if_neg (by simp), if_neg (by simp), if_neg (by simp)]
  have g2 : ¬ V2 a b := h2 a b r rfl
  unfold V2 at g2
  have e1 : byteAt (a :: b :: r) 1 = b.toNat := rfl
  rw [e1]
  split
  · rename_i q
    rw [if_neg (fun h => g2 ⟨q.1, q.2.2, h⟩)]
  rename_i n2
  rcases r with _ | ⟨c, r⟩
  · rw [if_neg (by simp), if_neg (by simp)]
  have g3 : ¬ V3 a b c := h3 a b c r rfl
  unfold V3 at g3
  have e2 : byteAt (a :: b :: c :: r) 2 = c.toNat := rfl
  rw [e2]
  split
  · rename_i q
    rw [if_neg (fun h => g3 ⟨q.1, q.2.1.2, q.2.2.2, h.1, h.2⟩)]
  rename_i n3
  rcases r with _ | ⟨d, r⟩
  · rw [if_neg (by simp)]
  have g4 : ¬ V4 a b c d := h4 a b c d r rfl
  unfold V4 at g4
  have e3 : byteAt (a :: b :: c :: d :: r) 3 = d.toNat := rfl
  rw [e3]
  split
  · rename_i q
    rw [if_neg (fun h => g4 ⟨q.1, q.2.1.2, q.2.2.1.2, q.2.2.2.2, h.1, h.2⟩)]
  · rfl
/-- Which it is. -/
theorem dc_cases (s : List UInt8) : (∃ a r, s = a :: r ∧ a.toNat < 128) ∨ (∃ a b r, s = a :: b :: r ∧ V2 a b) ∨ (∃ a b c r, s = a :: b :: c :: r ∧ V3 a b c) ∨ (∃ a b c d r, s = a :: b :: c :: d :: r ∧ V4 a b c d) ∨ NoV s := by
  by_cases h1 : ∃ a r, s = a :: r ∧ a.toNat < 128
  · exact .inl h1
  by_cases h2 : ∃ a b r, s = a :: b :: r ∧ V2 a b
  · exact .inr (.inl h2)
  by_cases h3 : ∃ a b c r, s = a :: b :: c :: r ∧ V3 a b c
  · exact .inr (.inr (.inl h3))
  by_cases h4 : ∃ a b c d r, s = a :: b :: c :: d :: r ∧ V4 a b c d
  · exact .inr (.inr (.inr (.inl h4)))
  refine .inr (.inr (.inr (.inr ⟨fun a r e => ?_, fun a b r e hv => h2 ⟨a, b, r, e, hv⟩, fun a b c r e hv => h3 ⟨a, b, c, r, e, hv⟩, fun a b c d r e hv => h4 ⟨a, b, c, d, r, e, hv⟩⟩)))
  rcases Nat.lt_or_ge a.toNat 128 with h | h
  · exact absurd ⟨a, r, e, h⟩ h1
  · exact h

/-- How many bytes a character's number has. -/
def sz (c : Nat) : Nat := if c < 128 then 1 else if c < 2048 then 2 else if c < 65536 then 3 else 4
/-- Its bytes. -/
def encU (c : Nat) : List UInt8 := (Utf8.encode (c : Int)).data.toList
/-- The front is a valid encoding. -/
def okc (s : List UInt8) : Bool := (dc s).2 == sz (dc s).1

theorem v2_lt {a b : UInt8} : a.toNat % 32 * 64 + b.toNat % 64 < 2048 := by omega
theorem v3_lt {a b c : UInt8} : a.toNat % 16 * 4096 + b.toNat % 64 * 64 + c.toNat % 64 < 65536 := by omega
theorem valid_of {c : Nat} (h : surr c) : Utf8.valid (c : Int) = true := by
  unfold surr at h
  unfold Utf8.valid
  simp only [Bool.or_eq_true, Bool.and_eq_true, decide_eq_true_eq]
  omega
theorem byte_of {n : Nat} {a : UInt8} (h : n = a.toNat) : UInt8.ofNat n = a := by rw [h]; simp
set_option maxRecDepth 100000 in
theorem enc_one {a : UInt8} (h : a.toNat < 128) : encU a.toNat = [a] := by
  unfold encU Utf8.encode
  rw [if_pos (valid_of (.inl (by omega)))]
  simp only [Int.toNat_natCast]
  rw [if_pos (by omega)]
  simp
set_option maxRecDepth 100000 in
theorem enc_two {a b : UInt8} (h : V2 a b) : encU (a.toNat % 32 * 64 + b.toNat % 64) = [a, b] := by
  have hl := v2_lt (a := a) (b := b)
  obtain ⟨h1, h2, h3⟩ := h
  unfold encU Utf8.encode
  rw [if_pos (valid_of (.inl (by omega)))]
  simp only [Int.toNat_natCast]
  rw [if_neg (by omega), if_pos (by omega)]
  simp only [List.cons.injEq, and_true]
  exact ⟨byte_of (by omega), byte_of (by omega)⟩
set_option maxRecDepth 100000 in
theorem enc_three {a b c : UInt8} (h : V3 a b c) : encU (a.toNat % 16 * 4096 + b.toNat % 64 * 64 + c.toNat % 64) = [a, b, c] := by
  have hl := v3_lt (a := a) (b := b) (c := c)
  obtain ⟨h1, h2, h3, h4, h5⟩ := h
  unfold encU Utf8.encode
  rw [if_pos (valid_of h5)]
  simp only [Int.toNat_natCast]
  rw [if_neg (by omega), if_neg (by omega), if_pos (by omega)]
  simp only [List.cons.injEq, and_true]
  exact ⟨byte_of (by omega), byte_of (by omega), byte_of (by omega)⟩
set_option maxRecDepth 100000 in
theorem enc_four {a b c d : UInt8} (h : V4 a b c d) : encU (a.toNat % 8 * 262144 + b.toNat % 64 * 4096 + c.toNat % 64 * 64 + d.toNat % 64) = [a, b, c, d] := by
  obtain ⟨h1, h2, h3, h4, h5, h6⟩ := h
  unfold encU Utf8.encode
  rw [if_pos (valid_of h6)]
  simp only [Int.toNat_natCast]
  rw [if_neg (by omega), if_neg (by omega), if_neg (by omega)]
  simp only [List.cons.injEq, and_true]
  exact ⟨byte_of (by omega), byte_of (by omega), byte_of (by omega), byte_of (by omega)⟩

/-- What is known of the front. -/
theorem dc_know {s : List UInt8} (h0 : s ≠ []) : 1 ≤ (dc s).2 ∧ (dc s).2 ≤ s.length ∧ (dc s).1 ≤ 1114111 ∧
    (okc s = true → s.take (dc s).2 = encU (dc s).1) ∧ (okc s = false → dc s = (65533, 1) ∧ s.take 3 ≠ encU 65533 ∧ ∃ a r, s = a :: r ∧ 128 ≤ a.toNat) := by
  have hs : ∀ c, surr c → c ≤ 1114111 := fun c h => by unfold surr at h; omega
  rcases dc_cases s with ⟨a, r, rfl, h⟩ | ⟨a, b, r, rfl, h⟩ | ⟨a, b, c, r, rfl, h⟩ | ⟨a, b, c, d, r, rfl, h⟩ | h
  · have e := dc_one r h
    have ho : okc (a :: r) = true := by unfold okc; rw [e]; simp [sz, h]
    rw [e]
    refine ⟨Nat.le_refl _, by simp, by simp only; omega, fun _ => by simp only [enc_one h]; rfl, fun hh => ?_⟩
    rw [ho] at hh; cases hh
  · have e := dc_two r h
    have hl := v2_lt (a := a) (b := b)
    have ho : okc (a :: b :: r) = true := by
      unfold okc; rw [e]
      have h3 := h.2.2
      simp only [sz, if_neg (show ¬ a.toNat % 32 * 64 + b.toNat % 64 < 128 by omega), if_pos hl]; rfl
    rw [e]
    refine ⟨by simp, by simp, by simp only; omega, fun _ => by simp only [enc_two h]; rfl, fun hh => ?_⟩
    rw [ho] at hh; cases hh
  · have e := dc_three r h
    have hl := v3_lt (a := a) (b := b) (c := c)
    have ho : okc (a :: b :: c :: r) = true := by
      unfold okc; rw [e]
      have h3 := h.2.2.2.1
      simp only [sz, if_neg (show ¬ a.toNat % 16 * 4096 + b.toNat % 64 * 64 + c.toNat % 64 < 128 by omega), if_neg (show ¬ a.toNat % 16 * 4096 + b.toNat % 64 * 64 + c.toNat % 64 < 2048 by omega), if_pos hl]; rfl
    rw [e]
    refine ⟨by simp, by simp, hs _ h.2.2.2.2, fun _ => by simp only [enc_three h]; rfl, fun hh => ?_⟩
    rw [ho] at hh; cases hh
  · have e := dc_four r h
    have ho : okc (a :: b :: c :: d :: r) = true := by
      unfold okc; rw [e]
      have h3 := h.2.2.2.2.1
      simp only [sz, if_neg (show ¬ a.toNat % 8 * 262144 + b.toNat % 64 * 4096 + c.toNat % 64 * 64 + d.toNat % 64 < 128 by omega), if_neg (show ¬ a.toNat % 8 * 262144 + b.toNat % 64 * 4096 + c.toNat % 64 * 64 + d.toNat % 64 < 2048 by omega), if_neg (show ¬ a.toNat % 8 * 262144 + b.toNat % 64 * 4096 + c.toNat % 64 * 64 + d.toNat % 64 < 65536 by omega)]; rfl
    rw [e]
    refine ⟨by simp, by simp, hs _ h.2.2.2.2.2, fun _ => by simp only [enc_four h]; rfl, fun hh => ?_⟩
    rw [ho] at hh; cases hh
  · have e := dc_none h0 h
    obtain ⟨a, r, rfl⟩ := List.exists_cons_of_ne_nil h0
    have ho : okc (a :: r) = false := by unfold okc; rw [e]; rfl
    rw [e]
    refine ⟨Nat.le_refl _, by simp, by simp, fun hh => ?_, fun _ => ⟨rfl, fun h3 => ?_, a, r, rfl, h.1 a r rfl⟩⟩
    · rw [ho] at hh; cases hh
    · have e3 : encU 65533 = [239, 191, 189] := by decide
      rw [e3] at h3
      rcases r with _ | ⟨b, _ | ⟨c, r⟩⟩
      · simp at h3
      · simp at h3
      · simp at h3
        obtain ⟨rfl, rfl, rfl⟩ := h3
        exact h.2.2.1 239 191 189 r rfl ⟨by decide, by decide, by decide, by decide, .inr (by decide)⟩

/-- No byte behind an ASCII one plays a part for what stands ahead of it. -/
theorem dc_app {u : List UInt8} (h0 : u ≠ []) {c : UInt8} (hc : c.toNat < 128) (v : List UInt8) : dc (u ++ c :: v) = dc u := by
  rcases dc_cases u with ⟨a, r, rfl, h⟩ | ⟨a, b, r, rfl, h⟩ | ⟨a, b, x, r, rfl, h⟩ | ⟨a, b, x, d, r, rfl, h⟩ | h
  · rw [dc_one r h, List.cons_append, dc_one _ h]
  · rw [dc_two r h, List.cons_append, List.cons_append, dc_two _ h]
  · rw [dc_three r h, List.cons_append, List.cons_append, List.cons_append, dc_three _ h]
  · rw [dc_four r h, List.cons_append, List.cons_append, List.cons_append, List.cons_append, dc_four _ h]
  · rw [dc_none h0 h]
    refine dc_none (by simp) ?_
    obtain ⟨g1, g2, g3, g4⟩ := h
    have hcc : ¬ c.toNat / 64 = 2 := by omega
    obtain ⟨a, r, rfl⟩ := List.exists_cons_of_ne_nil h0
    refine ⟨fun a' r' e => ?_, fun a' b' r' e hv => ?_, fun a' b' c' r' e hv => ?_, fun a' b' c' d' r' e hv => ?_⟩
    · injection e with e1 _
      rw [← e1]
      exact g1 a r rfl
    · rcases r with _ | ⟨b, r⟩
      · simp at e
        obtain ⟨rfl, rfl, _⟩ := e
        exact hcc hv.2.1
      · simp at e
        obtain ⟨rfl, rfl, _⟩ := e
        exact g2 _ _ r rfl hv
    · rcases r with _ | ⟨b, _ | ⟨x, r⟩⟩
      · simp at e
        obtain ⟨rfl, rfl, _⟩ := e
        exact hcc hv.2.1
      · simp at e
        obtain ⟨rfl, rfl, rfl, _⟩ := e
        exact hcc hv.2.2.1
      · simp at e
        obtain ⟨rfl, rfl, rfl, _⟩ := e
        exact g3 _ _ _ r rfl hv
    · rcases r with _ | ⟨b, _ | ⟨x, _ | ⟨y, r⟩⟩⟩
      · simp at e
        obtain ⟨rfl, rfl, _⟩ := e
        exact hcc hv.2.1
      · simp at e
        obtain ⟨rfl, rfl, rfl, _⟩ := e
        exact hcc hv.2.2.1
      · simp at e
        obtain ⟨rfl, rfl, rfl, rfl, _⟩ := e
        exact hcc hv.2.2.2.1
      · simp at e
        obtain ⟨rfl, rfl, rfl, rfl, _⟩ := e
        exact g4 _ _ _ _ r rfl hv
/-- A valid encoding is told by its own bytes. -/
theorem dc_valid {s : List UInt8} (h0 : s ≠ []) (ho : okc s = true) (v : List UInt8) : dc (s.take (dc s).2 ++ v) = dc s := by
  rcases dc_cases s with ⟨a, r, rfl, h⟩ | ⟨a, b, r, rfl, h⟩ | ⟨a, b, x, r, rfl, h⟩ | ⟨a, b, x, d, r, rfl, h⟩ | hn
  · rw [dc_one r h]; exact dc_one v h
  · rw [dc_two r h]; exact dc_two v h
  · rw [dc_three r h]; exact dc_three v h
  · rw [dc_four r h]; exact dc_four v h
  · have e := dc_none h0 hn
    unfold okc at ho
    rw [e] at ho
    exact absurd ho (by decide)

end Go.Proofs.Ytgpcbfjakgndlaa

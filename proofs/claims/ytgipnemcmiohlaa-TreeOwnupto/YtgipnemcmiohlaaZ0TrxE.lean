/- What the laws of package tree want of TrxE. -/
import Derived.Test.YtgipnemcmiohlaaZ0TrxD
import Derived.Sort.LotA
import Derived.Shelf.SlSortCmp.KitK
import Derived.Shelf.RegionOpenPlain
import Derived.BigRegion
import Derived.Shelf.SlSortCmp.QuietGrown
namespace Go.Proofs.Ytgipnemcmiohlaa
open Go.RowKit
set_option linter.unusedSimpArgs false
set_option linter.unusedVariables false
open Go.Sort (PermIn SortedIn SWO swp permIn_refl permIn_trans permIn_mono permIn_all swp_permIn size_swp swp_left swp_right swp_other insInner insOuter insertionSort insertionSort_holds sorted_unique_holds)
section
variable {α : Type} [Inhabited α] {lt : α → α → Bool} {p : α → Nat}
theorem srt_join {a c b : Nat} {d : Array α} (h1 : SortedIn lt a c d) (h2 : SortedIn lt c b d) (h3 : ∀ x y, a ≤ x → x < c → c ≤ y → y < b → lt d[y]! d[x]! = false) : SortedIn lt a b d := by
  intro x y hx hxy hy
  by_cases h : y < c
  · exact h1 x y hx hxy h
  · by_cases h' : x < c
    · exact h3 x y hx h' (by omega) hy
    · exact h2 x y (by omega) hxy hy
theorem srt_sub {a b a' b' : Nat} {d : Array α} (h : SortedIn lt a b d) (ha : a ≤ a') (hb : b' ≤ b) : SortedIn lt a' b' d := fun x y h1 h2 h3 => h x y (by omega) h2 (by omega)
theorem srt_same {a b : Nat} {d d' : Array α} (h : SortedIn lt a b d) (he : ∀ x, a ≤ x → x < b → d'[x]! = d[x]!) : SortedIn lt a b d' := fun x y h1 h2 h3 => by
  rw [he x h1 (by omega), he y (by omega) h3]
  exact h x y h1 h2 h3
/-- A run moved by t. -/
theorem srt_move {a b a' b' t : Nat} {d d' : Array α} (h : SortedIn lt a b d) (he : ∀ x, a' ≤ x → x < b' → ∃ y, y = x + t - a' ∧ d'[x]! = d[y]!) (ht : t = a) (hb : b' - a' ≤ b - a) : SortedIn lt a' b' d' := fun x y h1 h2 h3 => by
  obtain ⟨x', e1, e2⟩ := he x h1 (by omega)
  obtain ⟨y', e3, e4⟩ := he y (by omega) h3
  rw [e2, e4]
  exact h x' y' (by omega) (by omega) (by omega)
def Swr (a b n : Nat) (d d' : Array α) : Prop := (∀ x, x < n → d'[a + x]! = d[b + x]! ∧ d'[b + x]! = d[a + x]!) ∧ (∀ x, (x < a ∨ a + n ≤ x) → (x < b ∨ b + n ≤ x) → d'[x]! = d[x]!)
theorem Swr.zero {a b : Nat} (d : Array α) : Swr a b 0 d d := ⟨fun x h => by omega, fun _ _ _ => rfl⟩
theorem Swr.step {a b n N : Nat} {d dk : Array α} (h : Swr a b n d dk) (hn : n < N) (hab : a + N ≤ b) (hb : b + N ≤ dk.size) : Swr a b (n + 1) d (swp dk (a + n) (b + n)) := by
  have hl := swp_left dk (a + n) (b + n) (by omega) (by omega)
  have hr := swp_right dk (a + n) (b + n) (by omega)
  have ho := fun k h1 h2 => swp_other dk (a + n) (b + n) k h1 h2
  refine ⟨fun x hx => ?_, fun x h1 h2 => ?_⟩
  · by_cases e : x = n
    · subst e
      rw [hl, hr]
      exact ⟨h.2 _ (by omega) (by omega), h.2 _ (by omega) (by omega)⟩
    · rw [ho _ (by omega) (by omega), ho _ (by omega) (by omega)]
      exact h.1 x (by omega)
  · rw [ho _ (by omega) (by omega)]
    exact h.2 x (by omega) (by omega)
theorem Swr.a1 {a b n : Nat} {d d' : Array α} (h : Swr a b n d d') {x y : Nat} (h1 : a ≤ x) (h2 : x < a + n) (e : y + a = x + b) : d'[x]! = d[y]! := by
  have h3 := (h.1 (x - a) (by omega)).1
  rw [show a + (x - a) = x by omega, show b + (x - a) = y by omega] at h3
  exact h3
theorem Swr.a2 {a b n : Nat} {d d' : Array α} (h : Swr a b n d d') {x y : Nat} (h1 : b ≤ x) (h2 : x < b + n) (e : y + b = x + a) : d'[x]! = d[y]! := by
  have h3 := (h.1 (x - b) (by omega)).2
  rw [show b + (x - b) = x by omega, show a + (x - b) = y by omega] at h3
  exact h3
theorem Swr.a3 {a b n : Nat} {d d' : Array α} (h : Swr a b n d d') {x y : Nat} (h1 : x < a ∨ a + n ≤ x) (h2 : x < b ∨ b + n ≤ x) (e : y = x) : d'[x]! = d[y]! := by
  subst e
  exact h.2 _ h1 h2
theorem at_eq {d : Array α} {x y : Nat} (e : x = y) : d[x]! = d[y]! := by rw [e]
def rotv (d : Array α) (a m b x : Nat) : α := if x < a then d[x]! else if x < a + (b - m) then d[x + (m - a)]! else if x < b then d[x - (b - m)]! else d[x]!
theorem rot_gt {m i j : Nat} {dk dk' : Array α} (h : Swr (m - i) m j dk dk') (h1 : j < i) (h2 : i ≤ m) (h0 : 0 < j) : ∀ x, rotv dk (m - i) m (m + j) x = rotv dk' (m - (i - j)) m (m + j) x := by
  intro x
  simp only [rotv]
  repeat' split
  all_goals first
    | (exfalso; omega)
    | exact (h.a1 (by omega) (by omega) (by omega)).symm
    | exact (h.a2 (by omega) (by omega) (by omega)).symm
    | exact (h.a3 (by omega) (by omega) (by omega)).symm
theorem rot_lt {m i j : Nat} {dk dk' : Array α} (h : Swr (m - i) (m + j - i) i dk dk') (h1 : i < j) (h2 : i ≤ m) (h0 : 0 < i) : ∀ x, rotv dk (m - i) m (m + j) x = rotv dk' (m - i) m (m + (j - i)) x := by
  intro x
  simp only [rotv]
  repeat' split
  all_goals first
    | (exfalso; omega)
    | exact (h.a1 (by omega) (by omega) (by omega)).symm
    | exact (h.a2 (by omega) (by omega) (by omega)).symm
    | exact (h.a3 (by omega) (by omega) (by omega)).symm
theorem rot_eq {m i : Nat} {dk dk' : Array α} (h : Swr (m - i) m i dk dk') (h2 : i ≤ m) (h0 : 0 < i) : ∀ x, rotv dk (m - i) m (m + i) x = dk'[x]! := by
  intro x
  simp only [rotv]
  repeat' split
  all_goals first
    | (exfalso; omega)
    | exact (h.a1 (by omega) (by omega) (by omega)).symm
    | exact (h.a2 (by omega) (by omega) (by omega)).symm
    | exact (h.a3 (by omega) (by omega) (by omega)).symm
/-- d' is d with the parts [a, m) and [m, b) exchanged. -/
def Rot (a m b : Nat) (d d' : Array α) : Prop := PermIn a b d d' ∧ ∀ x, d'[x]! = rotv d a m b x
theorem Rot.lo {a m b x : Nat} {d d' : Array α} (h : Rot a m b d d') (h1 : x < a) : d'[x]! = d[x]! := by
  rw [h.2, rotv, if_pos h1]
theorem Rot.b1 {a m b x : Nat} {d d' : Array α} (h : Rot a m b d d') (h1 : a ≤ x) (h2 : x < a + (b - m)) : d'[x]! = d[x + (m - a)]! := by
  rw [h.2, rotv, if_neg (by omega), if_pos h2]
theorem Rot.a2 {a m b x : Nat} {d d' : Array α} (h : Rot a m b d d') (h1 : a + (b - m) ≤ x) (h2 : x < b) : d'[x]! = d[x - (b - m)]! := by
  rw [h.2, rotv, if_neg (by omega), if_neg (by omega), if_pos h2]
theorem Rot.hi {a m b x : Nat} {d d' : Array α} (h : Rot a m b d d') (h1 : b ≤ x) (h2 : a ≤ m) (h3 : m ≤ b) : d'[x]! = d[x]! := by
  rw [h.2, rotv, if_neg (by omega), if_neg (by omega), if_neg (by omega)]
theorem Rot.refl_s {m b : Nat} (d : Array α) : Rot m m b d d := ⟨permIn_refl _ _ _, fun x => by
  simp only [rotv]
  repeat' split
  all_goals first | rfl | exact at_eq (by omega)⟩
theorem Rot.refl_e {a m : Nat} (d : Array α) : Rot a m m d d := ⟨permIn_refl _ _ _, fun x => by
  simp only [rotv]
  repeat' split
  all_goals first | rfl | exact at_eq (by omega)⟩
/-- One moved up, place by place. -/
def UpI (a k : Nat) (d dk : Array α) : Prop := ∀ x, dk[x]! = rotv d a (a + 1) (k + 1) x
theorem UpI.zero (a : Nat) (d : Array α) : UpI a a d d := fun x => by
  simp only [rotv]
  repeat' split
  all_goals first | rfl | exact at_eq (by omega)
theorem UpI.step {a k : Nat} {d dk : Array α} (h : UpI a k d dk) (hk : a ≤ k) (hs : k + 1 < dk.size) : UpI a (k + 1) d (swp dk k (k + 1)) := by
  intro x
  by_cases h1 : x = k
  · subst h1
    rw [swp_left dk _ _ (by omega) (by omega), h, rotv, rotv, if_neg (by omega), if_neg (by omega), if_neg (by omega), if_neg (by omega), if_pos (by omega)]
    exact at_eq (by omega)
  · by_cases h2 : x = k + 1
    · subst h2
      rw [swp_right dk _ _ (by omega), h, rotv, rotv]
      repeat' split
      all_goals first | (exfalso; omega) | exact at_eq (by omega)
    · rw [swp_other dk _ _ _ h1 h2, h, rotv, rotv]
      repeat' split
      all_goals first | rfl | (exfalso; omega) | exact at_eq (by omega)
/-- One moved down, place by place. -/
def DnI (m k : Nat) (d dk : Array α) : Prop := ∀ x, dk[x]! = rotv d k m (m + 1) x
theorem DnI.zero (m : Nat) (d : Array α) : DnI m m d d := fun x => by
  simp only [rotv]
  repeat' split
  all_goals first | rfl | exact at_eq (by omega)
theorem DnI.step {m k : Nat} {d dk : Array α} (h : DnI m (k + 1) d dk) (hk : k + 1 ≤ m) (hs : k + 1 < dk.size) : DnI m k d (swp dk (k + 1) k) := by
  intro x
  by_cases h1 : x = k + 1
  · subst h1
    rw [swp_left dk _ _ (by omega) (by omega), h, rotv, rotv]
    repeat' split
    all_goals first | rfl | (exfalso; omega) | exact at_eq (by omega)
  · by_cases h2 : x = k
    · subst h2
      rw [swp_right dk _ _ (by omega), h, rotv, rotv]
      repeat' split
      all_goals first | rfl | (exfalso; omega) | exact at_eq (by omega)
    · rw [swp_other dk _ _ _ h1 h2, h, rotv, rotv]
      repeat' split
      all_goals first | rfl | (exfalso; omega) | exact at_eq (by omega)
/-- What symMerge is to leave. -/
def SymP (lt : α → α → Bool) (a b : Nat) (d d' : Array α) : Prop := PermIn a b d d' ∧ SortedIn lt a b d'
def Lft (p : α → Nat) (a m b : Nat) (d : Array α) : Prop := ∀ x y, a ≤ x → x < m → m ≤ y → y < b → p d[x]! < p d[y]!
/-- What symMerge asks. -/
structure SymI (lt : α → α → Bool) (p : α → Nat) (a m b : Nat) (d : Array α) : Prop where
  am : a ≤ m
  mb : m ≤ b
  bs : b ≤ d.size
  s1 : SortedIn lt a m d
  s2 : SortedIn lt m b d
  lf : Lft p a m b d
/-- Behind the exchange: where the two halves are to be merged. -/
structure RotI (lt : α → α → Bool) (p : α → Nat) (a s c e b : Nat) (d : Array α) : Prop where
  al : a ≤ s
  sc : s ≤ c
  ce : c ≤ e
  eb : e ≤ b
  k1 : SortedIn lt a s d
  k2 : SortedIn lt s c d
  k3 : SortedIn lt c e d
  k4 : SortedIn lt e b d
  l1 : Lft p a s c d
  l2 : Lft p c e b d
  cr : ∀ x y, a ≤ x → x < c → c ≤ y → y < b → lt d[y]! d[x]! = false
theorem rot_merge {a s m e b : Nat} {d d' : Array α} (I : SymI lt p a m b d) (h : Rot s m e d d') (hs : a ≤ s) (hm : s ≤ m) (he : m ≤ e) (hb : e ≤ b)
    (h1 : ∀ x y, a ≤ x → x < s → e ≤ y → y < b → lt d[y]! d[x]! = false) (h2 : ∀ x y, m ≤ x → x < e → s ≤ y → y < m → lt d[y]! d[x]! = false) : RotI lt p a s (s + (e - m)) e b d' where
  al := hs
  sc := by omega
  ce := by omega
  eb := hb
  k1 := srt_same (srt_sub I.s1 (Nat.le_refl _) hm) (fun x _ hx => h.lo hx)
  k2 := srt_move (t := m) (srt_sub I.s2 (Nat.le_refl _) hb) (fun x hx hy => ⟨_, by omega, h.b1 hx hy⟩) rfl (by omega)
  k3 := srt_move (t := s) (srt_sub I.s1 hs (Nat.le_refl _)) (fun x hx hy => ⟨_, by omega, h.a2 hx hy⟩) rfl (by omega)
  k4 := srt_same (srt_sub I.s2 he (Nat.le_refl _)) (fun x hx _ => h.hi hx hm he)
  l1 := fun x y hx hx' hy hy' => by
    rw [h.lo hx', h.b1 hy hy']
    exact I.lf _ _ hx (by omega) (by omega) (by omega)
  l2 := fun x y hx hx' hy hy' => by
    rw [h.a2 hx hx', h.hi hy hm he]
    exact I.lf _ _ (by omega) (by omega) (by omega) (by omega)
  cr := fun x y hx hx' hy hy' => by
    by_cases e1 : x < s
    · rw [h.lo e1]
      by_cases e2 : y < e
      · rw [h.a2 hy e2]
        exact I.s1 _ _ hx (by omega) (by omega)
      · rw [h.hi (by omega) hm he]
        exact h1 _ _ hx e1 (by omega) hy'
    · rw [h.b1 (by omega) hx']
      by_cases e2 : y < e
      · rw [h.a2 hy e2]
        exact h2 _ _ (by omega) (by omega) (by omega) (by omega)
      · rw [h.hi (by omega) hm he]
        exact I.s2 _ _ (by omega) (by omega) hy'
/-- Both halves merged: all is. -/
theorem rot_done {a s c e b : Nat} {d d2 d3 : Array α} (R : RotI lt p a s c e b d) (hb : b ≤ d.size) (h2 : SymP lt a c d d2) (h3 : SymP lt c b d2 d3) : SymP lt a b d d3 := by
  have hc : a ≤ c := Nat.le_trans R.al R.sc
  have hc' : c ≤ b := Nat.le_trans R.ce R.eb
  have hb2 : b ≤ d2.size := by rw [h2.1.1]; exact hb
  refine ⟨permIn_trans _ _ _ _ _ (permIn_mono d d2 a c a b (Nat.le_refl _) hc' hb h2.1) (permIn_mono d2 d3 c b a b hc (Nat.le_refl _) hb2 h3.1), ?_⟩
  have k1 : ∀ x, a ≤ x → x < c → ∀ y, c ≤ y → y < b → lt d[y]! d2[x]! = false := permIn_all d d2 a c (fun z => ∀ y, c ≤ y → y < b → lt d[y]! z = false) (by omega) h2.1 (fun x hx hx' y hy hy' => R.cr x y hx hx' hy hy')
  have k2 : ∀ y, c ≤ y → y < b → ∀ x, a ≤ x → x < c → lt d3[y]! d2[x]! = false := permIn_all d2 d3 c b (fun z => ∀ x, a ≤ x → x < c → lt z d2[x]! = false) hb2 h3.1 (fun y hy hy' x hx hx' => by
    rw [h2.1.2.1 y (Or.inr hy)]
    exact k1 x hx hx' y hy hy')
  exact srt_join (srt_same h2.2 (fun x _ hx => h3.1.2.1 x (Or.inl hx))) h3.2 (fun x y hx hx' hy hy' => by
    rw [h3.1.2.1 x (Or.inl hx')]
    exact k2 y hy hy' x hx hx')
/-- A half of which one part is empty is merged. -/
theorem half_idle {a s c : Nat} {d : Array α} (h1 : SortedIn lt a s d) (h2 : SortedIn lt s c d) (h : a = s ∨ s = c) : SymP lt a c d d := by
  rcases h with rfl | rfl
  · exact ⟨permIn_refl _ _ _, h2⟩
  · exact ⟨permIn_refl _ _ _, h1⟩
/-- Where one part is one alone. -/
theorem sym_one {a s c e b : Nat} {d d' : Array α} (R : RotI lt p a s c e b d') (hb : b ≤ d.size) (hp : PermIn a b d d') (h1 : ∀ x y, a ≤ x → x < s → s ≤ y → y < c → lt d'[y]! d'[x]! = false) (h2 : ∀ x y, c ≤ x → x < e → e ≤ y → y < b → lt d'[y]! d'[x]! = false) : SymP lt a b d d' :=
  ⟨hp, srt_join (srt_join R.k1 R.k2 h1) (srt_join R.k3 R.k4 h2) R.cr⟩
end
end Go.Proofs.Ytgipnemcmiohlaa
namespace Go.Proofs.Ytgipnemcmiohlaa
open Go.RowKit
set_option linter.unusedSimpArgs false
set_option linter.unusedVariables false
open Go.Sort (PermIn SortedIn SWO swp permIn_refl permIn_trans permIn_mono permIn_all swp_permIn size_swp swp_left swp_right swp_other insInner insOuter insertionSort insertionSort_holds sorted_unique_holds)
section
variable {α : Type} [Inhabited α] {lt l1 l2 : α → α → Bool} {p : α → Nat}
/-- A block sorted, of what lay there first. -/
def Good (lt : α → α → Bool) (p : α → Nat) (lo hi : Nat) (d : Array α) : Prop := SortedIn lt lo hi d ∧ ∀ i, lo ≤ i → i < hi → lo ≤ p d[i]! ∧ p d[i]! < hi
theorem Good.same {lo hi : Nat} {d d' : Array α} (h : Good lt p lo hi d) (he : ∀ x, lo ≤ x → x < hi → d'[x]! = d[x]!) : Good lt p lo hi d' :=
  ⟨srt_same h.1 he, fun i h1 h2 => by rw [he i h1 h2]; exact h.2 i h1 h2⟩
theorem Good.none {lo hi : Nat} {d : Array α} (h : hi ≤ lo) : Good lt p lo hi d := ⟨fun x y h1 h2 h3 => by omega, fun i h1 h2 => by omega⟩
theorem dvd_gap {B x y : Nat} (h1 : B ∣ x) (h2 : B ∣ y) (h : x < y) : x + B ≤ y := by
  have := Nat.le_of_dvd (by omega) (Nat.dvd_sub h2 h1)
  omega
def Blks (lt : α → α → Bool) (p : α → Nat) (B n : Nat) (d : Array α) : Prop := ∀ lo, B ∣ lo → lo < n → Good lt p lo (min (lo + B) n) d
/-- The first pass. -/
structure FstI (lt : α → α → Bool) (p : α → Nat) (B n : Nat) (d0 : Array α) (a : Nat) (d : Array α) : Prop where
  dv : B ∣ a
  le : a ≤ n
  pm : PermIn 0 n d0 d
  dn : ∀ lo, B ∣ lo → lo < a → Good lt p lo (lo + B) d
  rs : ∀ i, a ≤ i → i < n → p d[i]! = i
theorem good_of_sym {a b n : Nat} {d d' : Array α} (hb : b ≤ d.size) (h : SymP lt a b d d') (hp : ∀ i, a ≤ i → i < b → a ≤ p d[i]! ∧ p d[i]! < b) : Good lt p a b d' :=
  ⟨h.2, permIn_all d d' a b (fun z => a ≤ p z ∧ p z < b) hb h.1 hp⟩
theorem FstI.step {B n a : Nat} {d0 d d' : Array α} (h : FstI lt p B n d0 a d) (hs : d0.size = n) (hb : a + B ≤ n) (hB : 0 < B) (k : SymP lt a (a + B) d d') : FstI lt p B n d0 (a + B) d' where
  dv := Nat.dvd_add h.dv (Nat.dvd_refl B)
  le := hb
  pm := permIn_trans _ _ _ _ _ h.pm (permIn_mono d d' a (a + B) 0 n (Nat.zero_le _) hb (by rw [h.pm.1, hs]; exact Nat.le_refl _) k.1)
  dn := fun lo h1 h2 => by
    by_cases e : lo < a
    · have hg := dvd_gap h1 h.dv e
      exact (h.dn lo h1 e).same (fun x hx hx' => k.1.2.1 x (Or.inl (by omega)))
    · have e2 : lo = a := by
        by_cases e3 : a < lo
        · have := dvd_gap h.dv h1 e3
          omega
        · omega
      subst e2
      exact good_of_sym (n := n) (by rw [h.pm.1, hs]; exact hb) k (fun i h3 h4 => by rw [h.rs i h3 (by omega)]; omega)
  rs := fun i h1 h2 => by
    rw [k.1.2.1 i (Or.inr h1)]
    exact h.rs i (by omega) h2
theorem FstI.last {B n a : Nat} {d0 d d' : Array α} (h : FstI lt p B n d0 a d) (hs : d0.size = n) (hb : n < a + B) (k : SymP lt a n d d') : Blks lt p B n d' ∧ PermIn 0 n d0 d' := by
  have hd : d.size = n := by rw [h.pm.1, hs]
  refine ⟨fun lo h1 h2 => ?_, permIn_trans _ _ _ _ _ h.pm (permIn_mono d d' a n 0 n (Nat.zero_le _) (Nat.le_refl _) (by omega) k.1)⟩
  by_cases e : lo < a
  · have hg := dvd_gap h1 h.dv e
    have := h.le
    rw [Nat.min_eq_left (by omega)]
    exact (h.dn lo h1 e).same (fun x hx hx' => k.1.2.1 x (Or.inl (by omega)))
  · have e2 : lo = a := by
      by_cases e3 : a < lo
      · have := dvd_gap h.dv h1 e3
        omega
      · omega
    subst e2
    rw [Nat.min_eq_right (by omega)]
    exact good_of_sym (n := n) (by omega) k (fun i h3 h4 => by rw [h.rs i h3 h4]; omega)
/-- A pass of merges. -/
structure MrgI (lt : α → α → Bool) (p : α → Nat) (B n : Nat) (d0 : Array α) (a : Nat) (d : Array α) : Prop where
  dv : 2 * B ∣ a
  le : a ≤ n
  pm : PermIn 0 n d0 d
  dn : ∀ lo, 2 * B ∣ lo → lo < a → Good lt p lo (lo + 2 * B) d
  rs : ∀ lo, B ∣ lo → a ≤ lo → lo < n → Good lt p lo (min (lo + B) n) d
theorem MrgI.start {B n : Nat} {d0 d : Array α} (h : Blks lt p B n d) (hp : PermIn 0 n d0 d) : MrgI lt p B n d0 0 d where
  dv := Nat.dvd_zero _
  le := Nat.zero_le _
  pm := hp
  dn := fun lo _ h => by omega
  rs := fun lo h1 _ h2 => h lo h1 h2
theorem MrgI.bv {B n a : Nat} {d0 d : Array α} (h : MrgI lt p B n d0 a d) : B ∣ a := Nat.dvd_trans (Nat.dvd_mul_left B 2) h.dv
theorem MrgI.ask {B n a : Nat} {d0 d : Array α} (h : MrgI lt p B n d0 a d) (hs : d0.size = n) (hb : a + B ≤ n) (hB : 0 < B) : SymI lt p a (a + B) (min (a + 2 * B) n) d := by
  have g1 := h.rs a h.bv (Nat.le_refl _) (by omega)
  rw [Nat.min_eq_left hb] at g1
  have g2 : Good lt p (a + B) (min (a + 2 * B) n) d := by
    by_cases e : a + B < n
    · have g := h.rs (a + B) (Nat.dvd_add h.bv (Nat.dvd_refl B)) (by omega) e
      rw [show a + B + B = a + 2 * B by omega] at g
      exact g
    · exact Good.none (by omega)
  exact ⟨by omega, by omega, by rw [h.pm.1, hs]; omega, g1.1, g2.1, fun x y h1 h2 h3 h4 => Nat.lt_of_lt_of_le (g1.2 x h1 h2).2 (g2.2 y h3 h4).1⟩
theorem MrgI.good {B n a : Nat} {d0 d d' : Array α} (h : MrgI lt p B n d0 a d) (hs : d0.size = n) (hb : a + B ≤ n) (hB : 0 < B) (k : SymP lt a (min (a + 2 * B) n) d d') : Good lt p a (min (a + 2 * B) n) d' := by
  have g1 := h.rs a h.bv (Nat.le_refl _) (by omega)
  rw [Nat.min_eq_left hb] at g1
  refine good_of_sym (n := n) (by rw [h.pm.1, hs]; omega) k (fun i h1 h2 => ?_)
  by_cases e : i < a + B
  · have := g1.2 i h1 e
    omega
  · have g := h.rs (a + B) (Nat.dvd_add h.bv (Nat.dvd_refl B)) (by omega) (by omega)
    rw [show a + B + B = a + 2 * B by omega] at g
    have := g.2 i (by omega) h2
    omega
theorem MrgI.step {B n a : Nat} {d0 d d' : Array α} (h : MrgI lt p B n d0 a d) (hs : d0.size = n) (hb : a + 2 * B ≤ n) (hB : 0 < B) (k : SymP lt a (a + 2 * B) d d') : MrgI lt p B n d0 (a + 2 * B) d' where
  dv := Nat.dvd_add h.dv (Nat.dvd_refl _)
  le := hb
  pm := permIn_trans _ _ _ _ _ h.pm (permIn_mono d d' a (a + 2 * B) 0 n (Nat.zero_le _) hb (by rw [h.pm.1, hs]; exact Nat.le_refl _) k.1)
  dn := fun lo h1 h2 => by
    by_cases e : lo < a
    · have hg := dvd_gap h1 h.dv e
      exact (h.dn lo h1 e).same (fun x hx hx' => k.1.2.1 x (Or.inl (by omega)))
    · have e2 : lo = a := by
        by_cases e3 : a < lo
        · have := dvd_gap h.dv h1 e3
          omega
        · omega
      subst e2
      have g := h.good hs (by omega) hB (by rw [Nat.min_eq_left hb]; exact k)
      rw [Nat.min_eq_left hb] at g
      exact g
  rs := fun lo h1 h2 h3 => (h.rs lo h1 (by omega) h3).same (fun x hx hx' => k.1.2.1 x (Or.inr (by omega)))
/-- The pass's end: a lone block goes as it is. -/
theorem MrgI.last {B n a : Nat} {d0 d d' : Array α} (h : MrgI lt p B n d0 a d) (hs : d0.size = n) (hb : n < a + 2 * B) (hB : 0 < B) (k : (a + B < n ∧ SymP lt a n d d') ∨ (n ≤ a + B ∧ d' = d)) : Blks lt p (2 * B) n d' ∧ PermIn 0 n d0 d' := by
  have hd : d.size = n := by rw [h.pm.1, hs]
  have hk : PermIn a n d d' := by
    rcases k with ⟨_, k⟩ | ⟨_, rfl⟩
    · exact k.1
    · exact permIn_refl _ _ _
  refine ⟨fun lo h1 h2 => ?_, permIn_trans _ _ _ _ _ h.pm (permIn_mono d d' a n 0 n (Nat.zero_le _) (Nat.le_refl _) (by omega) hk)⟩
  by_cases e : lo < a
  · have hg := dvd_gap h1 h.dv e
    have := h.le
    rw [Nat.min_eq_left (by omega)]
    exact (h.dn lo h1 e).same (fun x hx hx' => hk.2.1 x (Or.inl (by omega)))
  · have e2 : lo = a := by
      by_cases e3 : a < lo
      · have := dvd_gap h.dv h1 e3
        omega
      · omega
    subst e2
    rcases k with ⟨k1, k⟩ | ⟨k1, rfl⟩
    · exact h.good hs (by omega) hB (by rw [Nat.min_eq_right (by omega)]; exact k)
    · have g := h.rs lo h.bv (Nat.le_refl _) h2
      rw [Nat.min_eq_right (by omega)] at g ⊢
      exact g
theorem insInner_size (a : Nat) : ∀ (j : Nat) (d : Array α), (insInner lt a j d).size = d.size := by
  intro j
  induction j with
  | zero => intro d; rfl
  | succ j ih =>
    intro d
    unfold insInner
    split
    · rw [ih, size_swp]
    · rfl
theorem insInner_perm (a i : Nat) : ∀ (j : Nat) (d : Array α), j ≤ i → i < d.size → PermIn a (i + 1) d (insInner lt a j d) := by
  intro j
  induction j with
  | zero => intro d _ _; exact permIn_refl _ _ _
  | succ j ih =>
    intro d h1 h2
    unfold insInner
    split
    · rename_i hc
      simp only [Bool.and_eq_true, decide_eq_true_eq] at hc
      exact permIn_trans _ _ _ _ _ (swp_permIn d a (i + 1) (j + 1) j (by omega) (by omega) (by omega) (by omega) (by omega)) (ih _ (by omega) (by rw [size_swp]; exact h2))
    · exact permIn_refl _ _ _
theorem insInner_eq (hl : ∀ x y, p x < p y → l1 y x = l2 y x) (a : Nat) : ∀ (j : Nat) (d : Array α), j < d.size → (∀ k, a ≤ k → k < j → p d[k]! < p d[j]!) → insInner l1 a j d = insInner l2 a j d := by
  intro j
  induction j with
  | zero => intro d _ _; rfl
  | succ j ih =>
    intro d h1 h2
    by_cases h : a < j + 1
    · have e := hl _ _ (h2 j (by omega) (by omega))
      have e2 := ih (swp d (j + 1) j) (by rw [size_swp]; omega) (fun k h3 h4 => by
        rw [swp_other d _ _ _ (by omega) (by omega), swp_right d _ _ (by omega)]
        exact h2 k h3 (by omega))
      unfold insInner
      rw [e, e2]
    · unfold insInner
      have : decide (j + 1 > a) = false := decide_eq_false (by omega)
      rw [this]
      simp
theorem insOuter_eq (hl : ∀ x y, p x < p y → l1 y x = l2 y x) (a b : Nat) : ∀ (n i : Nat) (d : Array α), b - i = n → b ≤ d.size → (∀ k l, a ≤ k → k < i → i ≤ l → l < b → p d[k]! < p d[l]!) → (∀ k l, i ≤ k → k < l → l < b → p d[k]! < p d[l]!) → insOuter l1 a b i d = insOuter l2 a b i d := by
  intro n
  induction n with
  | zero =>
    intro i d h _ _ _
    rw [insOuter, if_neg (by omega), insOuter, if_neg (by omega)]
  | succ n ih =>
    intro i d h h1 h2 h3
    rw [insOuter, if_pos (by omega)]
    conv => rhs; rw [insOuter, if_pos (show i < b by omega)]
    rw [insInner_eq hl a i d (by omega) (fun k h4 h5 => h2 k i h4 h5 (Nat.le_refl _) (by omega))]
    have hp := insInner_perm (lt := l2) a i i d (Nat.le_refl _) (by omega)
    by_cases hai : a ≤ i
    · refine ih (i + 1) _ (by omega) (by rw [insInner_size]; exact h1) (fun k l h4 h5 h6 h7 => ?_) (fun k l h4 h5 h6 => ?_)
      · rw [hp.2.1 l (Or.inr h6)]
        exact permIn_all d _ a (i + 1) (fun z => p z < p d[l]!) (by omega) hp (fun x h8 h9 => by
          by_cases e : x < i
          · exact h2 x l h8 e (by omega) h7
          · exact h3 x l (by omega) (by omega) h7) k h4 (by omega)
      · rw [hp.2.1 l (Or.inr (by omega)), hp.2.1 k (Or.inr (by omega))]
        exact h3 k l (by omega) h5 h6
    · refine ih (i + 1) _ (by omega) (by rw [insInner_size]; exact h1) (fun k l h4 h5 h6 h7 => by omega) (fun k l h4 h5 h6 => ?_)
      rw [hp.2.1 l (Or.inr (by omega)), hp.2.1 k (Or.inr (by omega))]
      exact h3 k l (by omega) h5 h6
theorem ins_sym (hS : SWO l2) (hl : ∀ x y, p x < p y → l1 y x = l2 y x) {a b : Nat} {d : Array α} (hab : a ≤ b) (hb : b ≤ d.size) (h : ∀ k l, a ≤ k → k < l → l < b → p d[k]! < p d[l]!) : SymP l2 a b d (insertionSort l1 d a b) := by
  have e : insertionSort l1 d a b = insertionSort l2 d a b := insOuter_eq hl a b _ (a + 1) d rfl hb (fun k l h1 h2 h3 h4 => h k l h1 (by omega) h4) (fun k l h1 h2 h3 => h k l (by omega) h2 h3)
  rw [e]
  exact insertionSort_holds hS d a b hab hb
end
theorem swo_neg {α : Type} {lt : α → α → Bool} (hS : SWO lt) {x y : α} (h : lt x y = true) : lt y x = false := by
  cases h2 : lt y x with
  | false => rfl
  | true =>
    have := hS.trans _ _ _ h h2
    rw [hS.irrefl] at this
    cases this
structure Kd where
  a : NdD
  A : Option Addr
  c : Nat
  k : NdF
  F : List Nat
  p : Nat
instance : Inhabited Kd := ⟨⟨⟨[], [], 0, 0, []⟩, none, 0, .nil, [], 0⟩⟩
def Kd.v (x : Kd) : Value := .slice x.A x.k.len x.c
def Kd.enc (x : Kd) : List Value := ndC x.a x.v
def Kd.s (x : Kd) : Stp := stp x.a
def cfK (x y : Kd) : Int := cmpS x.s y.s
def ltK (x y : Kd) : Bool := lessS x.s y.s || (decide (x.s = y.s) && decide (x.p < y.p))
theorem ltK_iff (x y : Kd) : ltK x y = true ↔ lessS x.s y.s = true ∨ (x.s = y.s ∧ x.p < y.p) := by simp [ltK]
theorem ltK_not (x y : Kd) : ltK x y = false ↔ lessS y.s x.s = true ∨ (y.s = x.s ∧ y.p ≤ x.p) := by
  rw [← Bool.not_eq_true, ltK_iff]
  by_cases e : x.s = y.s
  · rw [e, lessS_irrefl]
    simp
  · have e' : y.s ≠ x.s := fun h => e h.symm
    rcases lessS_total e with h | h
    · simp [h, lessS_asymm h, e, e']
    · simp [h, lessS_asymm h, e, e']
theorem ltK_swo : SWO ltK where
  irrefl := fun x => by simp [ltK, lessS_irrefl]
  trans := fun x y z h1 h2 => by
    rw [ltK_iff] at *
    rcases h1 with h1 | ⟨e1, h1⟩ <;> rcases h2 with h2 | ⟨e2, h2⟩
    · exact .inl (lessS_trans h1 h2)
    · exact .inl (by rw [← e2]; exact h1)
    · exact .inl (by rw [e1]; exact h2)
    · exact .inr ⟨e1.trans e2, by omega⟩
  ntrans := fun x y z h1 h2 => by
    rw [ltK_not] at *
    rcases h1 with h1 | ⟨e1, h1⟩ <;> rcases h2 with h2 | ⟨e2, h2⟩
    · exact .inl (lessS_trans h2 h1)
    · exact .inl (by rw [e2]; exact h1)
    · exact .inl (by rw [← e1]; exact h2)
    · exact .inr ⟨e2.trans e1, by omega⟩
theorem ltK_cf {x y : Kd} (h : x.p < y.p) : decide (cfK y x < 0) = ltK y x := by
  unfold cfK
  rw [cmpS_decide, ltK]
  have : decide (y.p < x.p) = false := decide_eq_false (by omega)
  rw [this]
  simp
theorem ltK_lt {x y : Kd} (h : x.p < y.p) : cfK y x < 0 ↔ ltK y x = true := by
  rw [← ltK_cf h]
  simp
end Go.Proofs.Ytgipnemcmiohlaa
namespace Go.Proofs.Ytgipnemcmiohlaa
open Go.RowKit
set_option linter.unusedSimpArgs false
set_option linter.unusedVariables false
open Go.Sort (PermIn SortedIn SWO swp permIn_refl permIn_trans permIn_mono permIn_all swp_permIn size_swp swp_left swp_right swp_other)
theorem encK_len (x : Kd) : x.enc.length = 6 := rfl
theorem encK_one (x : Kd) : ∀ v ∈ x.enc, v.oneCell' = true := by
  intro v hv
  simp only [Kd.enc, List.mem_cons, List.not_mem_nil, or_false] at hv
  rcases hv with rfl | rfl | rfl | rfl | rfl | rfl <;> rfl
abbrev SwK (w0 : World) (b : Nat) (d : Array Kd) (w : World) : Prop := Go.Proofs.SWK Kd.enc 6 w0 b 0 d w
abbrev RwK (w0 : World) (b : Nat) (d : Array Kd) : Prop := Go.Proofs.RowK Kd.enc 6 w0 b 0 d
theorem sw_at6 {w0 w : World} {b : Nat} {d0 d : Array Kd} (h : SwK w0 b d w) (R : RwK w0 b d0) (hs : d.size = d0.size) {i : Nat} (hi : i < d.size) :
    ∀ j u, (ndC d[i]!.a d[i]!.v)[j]? = some u → w.cell? ⟨b, i * 6 + j, none⟩ = some u := fun j u hu => by
  have h1 := HoldsK.cells (h.holds R.hblk R.hH hs) R.hk hi j u hu
  rw [Addr.add_lit, Nat.zero_add] at h1
  exact h1
theorem sw_fz6 {w0 w : World} {b : Nat} {d0 d : Array Kd} (h : SwK w0 b d w) (R : RwK w0 b d0) (hs : d.size = d0.size) {i j : Nat} (hi : i < d.size) (hj : j < 6) : w.frozen? ⟨b, i * 6 + j, none⟩ = false := by
  have h1 := ((h.holds R.hblk R.hH hs).cell hi hj).2
  rw [Nat.zero_add] at h1
  exact h1
theorem set6o_is (w : World) (b o : Nat) (x : Kd) : set6o w b o (.string (txt x.a.name)) (.string (txt x.a.key)) (.int .i64 x.a.kind) (.int .u64 (x.a.num : Int)) (.string (txt x.a.text)) x.v = w.setCells b (0 + o) x.enc := by
  rw [Nat.zero_add]
  rfl
theorem sw_swap6 {w0 w : World} {b : Nat} {d0 d : Array Kd} (h : SwK w0 b d w) (R : RwK w0 b d0) {i j : Nat} (hi : i < d.size) (hj : j < d.size) {x y : Kd} (hx : x = d[i]!) (hy : y = d[j]!) : SwK w0 b (swp d i j)
    (set6o (set6o w b (i * 6) (.string (txt y.a.name)) (.string (txt y.a.key)) (.int .i64 y.a.kind) (.int .u64 (y.a.num : Int)) (.string (txt y.a.text)) (.slice y.A y.k.len y.c)) b (j * 6) (.string (txt x.a.name)) (.string (txt x.a.key)) (.int .i64 x.a.kind) (.int .u64 (x.a.num : Int)) (.string (txt x.a.text)) (.slice x.A x.k.len x.c)).drew := by
  have h1 := h.swap R.hk R.hblk i j hi hj
  rw [← hx, ← hy, ← set6o_is, ← set6o_is] at h1
  exact SWK.drew h1
set_option maxRecDepth 100000 in
set_option maxHeartbeats 8000000 in
theorem swr_any (blk cap a b n : Nat) (d0 d : Array Kd) (w0 w : World) (R : RwK w0 blk d0) (hs : d.size = d0.size) (S : SwK w0 blk d w) (hab : a + n ≤ b) (hb : b + n ≤ d.size) (hsz : d.size ≤ 1000000) :
    Calls Try.prog 62 #[.slice (some ⟨blk, 0, none⟩) d.size cap, .int .i64 (a : Int), .int .i64 (b : Int), .int .i64 (n : Int), (.func (.func 33) #[] #[])] w fun e w' =>
      e = .returned (.tuple #[]) ∧ ∃ d', Swr a b n d d' ∧ PermIn a (b + n) d d' ∧ SwK w0 blk d' w' := by
  have R : Hid (RwK w0 blk d0) := Lib.hid R
  have S0 := Lib.hid S
  clear S
  have mixed : Try.prog.follows .mixedOrders = true := by kernel_rfl
  go_enter Try.func62, Try.ntmps62
  go_wp2
  go_loopw [10] (fun i wr => ∃ (k : Nat) (dk : Array Kd), k ≤ n ∧ i = .int .i64 (k : Int) ∧ dk.size = d.size ∧ Hid (Swr a b k d dk ∧ PermIn a (b + n) d dk) ∧ Hid (SwK w0 blk dk wr)) (fun i _ => n - (intOf i).toNat)
  case atStart => exact ⟨0, d, Nat.zero_le _, rfl, rfl, Lib.hid ⟨Swr.zero d, permIn_refl _ _ _⟩, S0⟩
  case round =>
    obtain ⟨k, dk, hk, rfl, hsk, HI, HS⟩ := hrel
    by_cases hlt : k < n
    · have xp : (0 : Int) ≤ (a : Int) + (k : Int) := by omega
      have xb : (a : Int) + (k : Int) < (d.size : Int) := by omega
      have yp : (0 : Int) ≤ (b : Int) + (k : Int) := by omega
      have yb : (b : Int) + (k : Int) < (d.size : Int) := by omega
      have i3 : (d.size : Int) ≤ 1000000 := by omega
      have hyb : b + k < d.size := by omega
      obtain ⟨u, hu⟩ : ∃ u, u = dk[(a + k)]! := ⟨_, rfl⟩
      obtain ⟨v, hv⟩ : ∃ v, v = dk[(b + k)]! := ⟨_, rfl⟩
      have hcu := sw_at6 HS.out R.out (by omega) (i := (a + k)) (by omega)
      have hcv := sw_at6 HS.out R.out (by omega) (i := (b + k)) (by omega)
      rw [← hu] at hcu
      rw [← hv] at hcv
      have hfu : ∀ j, j < 6 → wr.frozen? ⟨blk, (a + k) * 6 + j, none⟩ = false := fun j hj => sw_fz6 HS.out R.out (by omega) (by omega) hj
      have hfv : ∀ j, j < 6 → wr.frozen? ⟨blk, (b + k) * 6 + j, none⟩ = false := fun j hj => sw_fz6 HS.out R.out (by omega) (by omega) hj
      have HNW := Lib.hid (sw_swap6 HS.out R.out (i := (a + k)) (j := (b + k)) (by omega) (by omega) hu hv)
      have fu0 : wr.frozen? ⟨blk, (a + k) * 6, none⟩ = false := hfu 0 (by omega)
      have fu1 := hfu 1 (by omega)
      have fu2 := hfu 2 (by omega)
      have fu3 := hfu 3 (by omega)
      have fu4 := hfu 4 (by omega)
      have fu5 := hfu 5 (by omega)
      have fv0 : wr.frozen? ⟨blk, (b + k) * 6, none⟩ = false := hfv 0 (by omega)
      have fv1 := hfv 1 (by omega)
      have fv2 := hfv 2 (by omega)
      have fv3 := hfv 3 (by omega)
      have fv4 := hfv 4 (by omega)
      have fv5 := hfv 5 (by omega)
      have cu0 : wr.cell? ⟨blk, (a + k) * 6, none⟩ = _ := hcu 0 _ rfl
      have cu1 : wr.cell? ⟨blk, (a + k) * 6 + 1, none⟩ = _ := hcu 1 _ rfl
      have cu2 : wr.cell? ⟨blk, (a + k) * 6 + 2, none⟩ = _ := hcu 2 _ rfl
      have cu3 : wr.cell? ⟨blk, (a + k) * 6 + 3, none⟩ = _ := hcu 3 _ rfl
      have cu4 : wr.cell? ⟨blk, (a + k) * 6 + 4, none⟩ = _ := hcu 4 _ rfl
      have cu5 : wr.cell? ⟨blk, (a + k) * 6 + 5, none⟩ = some (.slice u.A u.k.len u.c) := hcu 5 _ rfl
      have cv0 : wr.cell? ⟨blk, (b + k) * 6, none⟩ = _ := hcv 0 _ rfl
      have cv1 : wr.cell? ⟨blk, (b + k) * 6 + 1, none⟩ = _ := hcv 1 _ rfl
      have cv2 : wr.cell? ⟨blk, (b + k) * 6 + 2, none⟩ = _ := hcv 2 _ rfl
      have cv3 : wr.cell? ⟨blk, (b + k) * 6 + 3, none⟩ = _ := hcv 3 _ rfl
      have cv4 : wr.cell? ⟨blk, (b + k) * 6 + 4, none⟩ = _ := hcv 4 _ rfl
      have cv5 : wr.cell? ⟨blk, (b + k) * 6 + 5, none⟩ = some (.slice v.A v.k.len v.c) := hcv 5 _ rfl
      clear hcu hcv hfu hfv hu hv
      go_wp2_with fail
      go_big_region_o
      clear fu0 fu1 fu2 fu3 fu4 fu5 fv0 fv1 fv2 fv3 fv4 fv5 cu0 cu1 cu2 cu3 cu4 cu5 cv0 cv1 cv2 cv3 cv4 cv5
      go_wp2
      go_roundw
      case rel => exact ⟨k + 1, swp dk (a + k) (b + k), by omega, by go_num, by rw [size_swp]; exact hsk, Lib.hid ⟨HI.out.1.step hlt hab (by omega), permIn_trans _ _ _ _ _ HI.out.2 (swp_permIn dk a (b + n) (a + k) (b + k) (by omega) (by omega) (by omega) (by omega) (by omega))⟩, HNW⟩
      case measure => simp [intOf]; omega
    · have i2 : ¬ (k : Int) < (n : Int) := by omega
      have HF : Hid (∃ d', Swr a b n d d' ∧ PermIn a (b + n) d d' ∧ SwK w0 blk d' wr) := Lib.hid (by
        have e : k = n := by omega
        subst e
        exact ⟨dk, HI.out.1, HI.out.2, HS.out⟩)
      go_wp2
      go_end0
      exact ⟨rfl, HF.out⟩
end Go.Proofs.Ytgipnemcmiohlaa
namespace Go.Proofs.Ytgipnemcmiohlaa
open Go.RowKit
set_option linter.unusedSimpArgs false
set_option linter.unusedVariables false
open Go.Sort (PermIn SortedIn SWO swp permIn_refl permIn_trans permIn_mono permIn_all swp_permIn size_swp swp_left swp_right swp_other)
def RotL (a m b : Nat) (d : Array Kd) (w0 : World) (blk i j : Nat) (wr : World) : Prop := ∃ dk, PermIn a b d dk ∧ (∀ x, rotv d a m b x = rotv dk (m - i) m (m + j) x) ∧ SwK w0 blk dk wr
theorem swr_at (blk cap a b n : Nat) (x y z : Int) (d0 d dk : Array Kd) (w0 w : World) (R : RwK w0 blk d0) (hs : d.size = d0.size) (hk : dk.size = d.size) (S : SwK w0 blk dk w) (hab : a + n ≤ b) (hb : b + n ≤ d.size) (hsz : d.size ≤ 1000000) (hx : x = (a : Int)) (hy : y = (b : Int)) (hz : z = (n : Int)) :
    Calls Try.prog 62 #[.slice (some ⟨blk, 0, none⟩) d.size cap, .int .i64 x, .int .i64 y, .int .i64 z, (.func (.func 33) #[] #[])] w fun e w' =>
      e = .returned (.tuple #[]) ∧ ∃ d', Swr a b n dk d' ∧ PermIn a (b + n) dk d' ∧ SwK w0 blk d' w' := by
  subst hx hy hz
  rw [← hk]
  exact swr_any blk cap a b n d0 dk w0 w R (by omega) S hab (by omega) (by omega)
set_option maxRecDepth 100000 in
set_option maxHeartbeats 1000000 in
theorem rot_any (blk cap a m b : Nat) (d0 d : Array Kd) (w0 w : World) (R : RwK w0 blk d0) (hs : d.size = d0.size) (S : SwK w0 blk d w) (ham : a < m) (hmb : m < b) (hb : b ≤ d.size) (hsz : d.size ≤ 1000000) :
    Calls Try.prog 60 #[.slice (some ⟨blk, 0, none⟩) d.size cap, .int .i64 (a : Int), .int .i64 (m : Int), .int .i64 (b : Int), (.func (.func 33) #[] #[])] w fun e w' =>
      e = .returned (.tuple #[]) ∧ ∃ d', Rot a m b d d' ∧ SwK w0 blk d' w' := by
  have S0 : Hid (RotL a m b d w0 blk (m - a) (b - m) w) := Lib.hid ⟨d, permIn_refl _ _ _, fun x => by rw [show m - (m - a) = a by omega, show m + (b - m) = b by omega], S⟩
  have R : Hid (RwK w0 blk d0) := Lib.hid R
  have HZ := Lib.hid hs
  clear S hs
  have i3 : (d.size : Int) ≤ 1000000 := by omega
  go_enter Try.func60, Try.ntmps60
  go_wp2
  go_loopw [10, 11] (fun s10 s11 wr => ∃ (i j : Nat), s10 = .int .i64 (i : Int) ∧ s11 = .int .i64 (j : Int) ∧ 0 < i ∧ a + i ≤ m ∧ 0 < j ∧ m + j ≤ b ∧ Hid (RotL a m b d w0 blk i j wr)) (fun s10 s11 _ => (intOf s10).toNat + (intOf s11).toNat)
  case atStart => exact ⟨m - a, b - m, by rw [show ((m - a : Nat) : Int) = (m : Int) - (a : Int) by omega], by rw [show ((b - m : Nat) : Int) = (b : Int) - (m : Int) by omega], by omega, by omega, by omega, by omega, S0⟩
  case round =>
    clear S0
    obtain ⟨i, j, rfl, rfl, hi, hi', hj, hj', HI⟩ := hrel
    by_cases he : i = j
    · subst he
      have HC : Hid (Calls Try.prog 62 #[.slice (some ⟨blk, 0, none⟩) d.size cap, .int .i64 ((m : Int) - (i : Int)), .int .i64 (m : Int), .int .i64 (i : Int), (.func (.func 33) #[] #[])] wr fun e w' => e = .returned (.tuple #[]) ∧ ∃ d', Rot a m b d d' ∧ SwK w0 blk d' w') := Lib.hid (by
        obtain ⟨dk, h1, h2, h3⟩ := HI.out
        refine (swr_at blk cap (m - i) m i _ _ _ d0 d dk w0 wr R.out HZ.out h1.1 h3 (by omega) (by omega) hsz (by omega) rfl rfl).mono ?_
        rintro r w' ⟨e, d', k1, k2, k3⟩
        exact ⟨e, d', ⟨permIn_trans _ _ _ _ _ h1 (permIn_mono dk d' (m - i) (m + i) a b (by omega) (by omega) (by rw [h1.1]; exact hb) k2), fun x => by rw [h2, rot_eq k1 (by omega) hi]⟩, k3⟩)
      go_wp2_with fail
      refine HC.out.mono ?_
      rintro r w' ⟨rfl, hr⟩
      have HR := Lib.hid hr
      clear hr
      go_wp2
      go_end0
      exact ⟨rfl, HR.out⟩
    · by_cases hlt : j < i
      · have n1 : ((i : Int) == (j : Int)) = false := beq_eq_false_iff_ne.2 (by omega)
        have n2 : (j : Int) < (i : Int) := by omega
        have HC : Hid (Calls Try.prog 62 #[.slice (some ⟨blk, 0, none⟩) d.size cap, .int .i64 ((m : Int) - (i : Int)), .int .i64 (m : Int), .int .i64 (j : Int), (.func (.func 33) #[] #[])] wr fun e w' => e = .returned (.tuple #[]) ∧ RotL a m b d w0 blk (i - j) j w') := Lib.hid (by
          obtain ⟨dk, h1, h2, h3⟩ := HI.out
          refine (swr_at blk cap (m - i) m j _ _ _ d0 d dk w0 wr R.out HZ.out h1.1 h3 (by omega) (by omega) hsz (by omega) rfl rfl).mono ?_
          rintro r w' ⟨e, d', k1, k2, k3⟩
          exact ⟨e, d', permIn_trans _ _ _ _ _ h1 (permIn_mono dk d' (m - i) (m + j) a b (by omega) (by omega) (by rw [h1.1]; exact hb) k2), fun x => by rw [h2, rot_gt k1 hlt (by omega) hj], k3⟩)
        go_wp2_with fail
        refine HC.out.mono ?_
        rintro r w' ⟨rfl, hr⟩
        have HR := Lib.hid hr
        clear hr
        go_wp2
        go_roundw
        case rel => exact ⟨i - j, j, by rw [show ((i - j : Nat) : Int) = (i : Int) - (j : Int) by omega], rfl, by omega, by omega, hj, hj', HR⟩
        case measure => simp [intOf]; omega
      · have n1 : ((i : Int) == (j : Int)) = false := beq_eq_false_iff_ne.2 (by omega)
        have n2 : ¬ (j : Int) < (i : Int) := by omega
        have HC : Hid (Calls Try.prog 62 #[.slice (some ⟨blk, 0, none⟩) d.size cap, .int .i64 ((m : Int) - (i : Int)), .int .i64 ((m : Int) + (j : Int) - (i : Int)), .int .i64 (i : Int), (.func (.func 33) #[] #[])] wr fun e w' => e = .returned (.tuple #[]) ∧ RotL a m b d w0 blk i (j - i) w') := Lib.hid (by
          obtain ⟨dk, h1, h2, h3⟩ := HI.out
          refine (swr_at blk cap (m - i) (m + j - i) i _ _ _ d0 d dk w0 wr R.out HZ.out h1.1 h3 (by omega) (by omega) hsz (by omega) (by omega) rfl).mono ?_
          rintro r w' ⟨e, d', k1, k2, k3⟩
          exact ⟨e, d', permIn_trans _ _ _ _ _ h1 (permIn_mono dk d' (m - i) (m + j - i + i) a b (by omega) (by omega) (by rw [h1.1]; exact hb) k2), fun x => by rw [h2, rot_lt k1 (by omega) (by omega) hi], k3⟩)
        go_wp2_with fail
        refine HC.out.mono ?_
        rintro r w' ⟨rfl, hr⟩
        have HR := Lib.hid hr
        clear hr
        go_wp2
        go_roundw
        case rel => exact ⟨i, j - i, rfl, by rw [show ((j - i : Nat) : Int) = (j : Int) - (i : Int) by omega], hi, by omega, by omega, by omega, HR⟩
        case measure => simp [intOf]; omega
end Go.Proofs.Ytgipnemcmiohlaa
namespace Go.Proofs.Ytgipnemcmiohlaa
open Go.RowKit
set_option linter.unusedSimpArgs false
set_option linter.unusedVariables false
open Go.Sort (PermIn SortedIn SWO swp permIn_refl permIn_trans permIn_mono permIn_all swp_permIn size_swp swp_left swp_right swp_other)
theorem up_rot {a i : Nat} {d dk : Array Kd} (hp : PermIn a i d dk) (h : UpI a (i - 1) d dk) (hi : a + 1 ≤ i) : Rot a (a + 1) i d dk := ⟨hp, fun x => by
  have h1 := h x
  rw [show i - 1 + 1 = i by omega] at h1
  exact h1⟩
theorem sym_left_done {a b i : Nat} {d d' : Array Kd} (I : SymI ltK Kd.p a (a + 1) b d) (h1 : a + 1 ≤ i) (h2 : i ≤ b) (hi : i = a + 1 ∨ ltK d[i - 1]! d[a]! = true) (hj : i = b ∨ ltK d[i]! d[a]! = false) (hr : Rot a (a + 1) i d d') : SymP ltK a b d d' := by
  have R := rot_merge I hr (Nat.le_refl _) (by omega) h1 h2 (fun x y g1 g2 g3 g4 => by omega) (fun x y g1 g2 g3 g4 => by
    have e : y = a := by omega
    subst e
    rcases hi with hi | hi
    · omega
    · by_cases e2 : x = i - 1
      · subst e2; exact swo_neg ltK_swo hi
      · exact ltK_swo.ntrans _ _ _ (swo_neg ltK_swo hi) (I.s2 x (i - 1) g1 (by omega) (by omega)))
  refine sym_one R I.bs (permIn_mono d d' a i a b (Nat.le_refl _) h2 I.bs hr.1) (fun x y g1 g2 g3 g4 => by omega) (fun x y g1 g2 g3 g4 => ?_)
  rw [hr.a2 g1 g2, hr.hi g3 (by omega) h1, show x - (i - (a + 1)) = a by omega]
  rcases hj with hj | hj
  · omega
  · by_cases e2 : y = i
    · subst e2; exact hj
    · exact ltK_swo.ntrans _ _ _ (I.s2 i y h1 (by omega) g4) hj
theorem sym_right_done {a m i : Nat} {d d' : Array Kd} (I : SymI ltK Kd.p a m (m + 1) d) (h1 : a ≤ i) (h2 : i ≤ m) (hi : i = a ∨ ltK d[m]! d[i - 1]! = false) (hj : i = m ∨ ltK d[m]! d[i]! = true) (hr : Rot i m (m + 1) d d') : SymP ltK a (m + 1) d d' := by
  have R := rot_merge I hr h1 h2 (by omega) (Nat.le_refl _) (fun x y g1 g2 g3 g4 => by omega) (fun x y g1 g2 g3 g4 => by
    have e : x = m := by omega
    subst e
    rcases hj with hj | hj
    · omega
    · by_cases e2 : y = i
      · subst e2; exact swo_neg ltK_swo hj
      · exact ltK_swo.ntrans _ _ _ (I.s1 i y h1 (by omega) g4) (swo_neg ltK_swo hj))
  refine sym_one R I.bs (permIn_mono d d' i (m + 1) a (m + 1) h1 (Nat.le_refl _) I.bs hr.1) (fun x y g1 g2 g3 g4 => ?_) (fun x y g1 g2 g3 g4 => by omega)
  rw [hr.lo g2, hr.b1 g3 g4, show y + (m - i) = m by omega]
  rcases hi with hi | hi
  · omega
  · by_cases e2 : x = i - 1
    · subst e2; exact hi
    · exact ltK_swo.ntrans _ _ _ hi (I.s1 x (i - 1) g1 (by omega) (by omega))
set_option maxRecDepth 100000 in
set_option maxHeartbeats 4000000 in
theorem sym_left (blk cap a m b : Nat) (d0 d : Array Kd) (w0 w : World) (R : RwK w0 blk d0) (hs : d.size = d0.size) (S : SwK w0 blk d w) (I : SymI ltK Kd.p a m b d) (hm : m = a + 1) (hab : m < b) (hsz : d.size ≤ 1000000) :
    Calls Try.prog 57 #[.slice (some ⟨blk, 0, none⟩) d.size cap, .int .i64 (a : Int), .int .i64 (m : Int), .int .i64 (b : Int), (.func (.func 33) #[] #[])] w fun e w' =>
      e = .returned (.tuple #[]) ∧ ∃ d', SymP ltK a b d d' ∧ SwK w0 blk d' w' := by
  have S0 := Lib.hid S
  have KI : Hid (SymI ltK Kd.p a (a + 1) b d) := Lib.hid (by rw [← hm]; exact I)
  have hbs := I.bs
  have hm1 : a < m := by omega
  have hm2 : m ≤ a + 1 := by omega
  have n1 : ((m : Int) - (a : Int) == 1) = true := by rw [show (m : Int) - (a : Int) = 1 by omega]; rfl
  have R : Hid (RwK w0 blk d0) := Lib.hid R
  have HZ := Lib.hid hs
  clear S hs I hm
  have i3 : (d.size : Int) ≤ 1000000 := by omega
  have mixed : Try.prog.follows .mixedOrders = true := by kernel_rfl
  go_enter Try.func57, Try.ntmps57
  go_wp2
  clear n1
  generalize ((m : Int) - (a : Int) == 1) = b1
  go_loopw [10, 11] (fun s10 s11 wr => ∃ (i j : Nat), s10 = .int .i64 (i : Int) ∧ s11 = .int .i64 (j : Int) ∧ a + 1 ≤ i ∧ i ≤ j ∧ j ≤ b ∧ Hid ((i = a + 1 ∨ ltK d[i - 1]! d[a]! = true) ∧ (j = b ∨ ltK d[j]! d[a]! = false)) ∧ Hid (SwK w0 blk d wr)) (fun s10 s11 _ => (intOf s11).toNat - (intOf s10).toNat)
  case atStart => exact ⟨m, b, rfl, rfl, by omega, by omega, Nat.le_refl _, Lib.hid ⟨.inl (by omega), .inl rfl⟩, S0⟩
  case round =>
    clear S0
    obtain ⟨i, j, rfl, rfl, hi, hij, hj, HI, HS⟩ := hrel
    by_cases hlt : i < j
    · obtain ⟨h, hh⟩ : ∃ h, h = (i + j) / 2 := ⟨_, rfl⟩
      have eh : ((i : Int) + (j : Int)) / 2 = (h : Int) := by omega
      have g1 : i ≤ h := by omega
      have g2 : h < j := by omega
      have g3 : (h : Int) < (d.size : Int) := by omega
      have g4 : (a : Int) < (d.size : Int) := by omega
      have g5 : (i : Int) < (j : Int) := by omega
      obtain ⟨u, hu⟩ : ∃ u, u = d[h]! := ⟨_, rfl⟩
      obtain ⟨v, hv⟩ : ∃ v, v = d[a]! := ⟨_, rfl⟩
      have hp : cfK u v < 0 ↔ ltK u v = true := ltK_lt (by rw [hu, hv]; exact KI.out.lf a h (Nat.le_refl _) (by omega) (by omega) (by omega))
      have HU := Lib.hid (And.intro hu (And.intro hv hp))
      clear hh hp
      by_cases hd : cfK u v < 0
      · have hd' : decide (cfK u v < 0) = true := decide_eq_true hd
        have gcu := fun n os => sw_at6 ((HS.out).grown n os) R.out HZ.out (i := h) (by omega)
        have gcv := fun n os => sw_at6 ((HS.out).grown n os) R.out HZ.out (i := a) (by omega)
        rw [← hu] at gcu
        rw [← hv] at gcv
        have cu0 : ∀ n os, (Go.Sort.grow (wr.drewN n) os).cell? ⟨blk, h * 6, none⟩ = some (.string (txt u.a.name)) := fun n os => gcu n os 0 _ rfl
        have cu1 : ∀ n os, (Go.Sort.grow (wr.drewN n) os).cell? ⟨blk, h * 6 + 1, none⟩ = some (.string (txt u.a.key)) := fun n os => gcu n os 1 _ rfl
        have cu2 : ∀ n os, (Go.Sort.grow (wr.drewN n) os).cell? ⟨blk, h * 6 + 2, none⟩ = some (.int .i64 u.a.kind) := fun n os => gcu n os 2 _ rfl
        have cu3 : ∀ n os, (Go.Sort.grow (wr.drewN n) os).cell? ⟨blk, h * 6 + 3, none⟩ = some (.int .u64 (u.a.num : Int)) := fun n os => gcu n os 3 _ rfl
        have cu4 : ∀ n os, (Go.Sort.grow (wr.drewN n) os).cell? ⟨blk, h * 6 + 4, none⟩ = some (.string (txt u.a.text)) := fun n os => gcu n os 4 _ rfl
        have cu5 : ∀ n os, (Go.Sort.grow (wr.drewN n) os).cell? ⟨blk, h * 6 + 5, none⟩ = some (.slice u.A u.k.len u.c) := fun n os => gcu n os 5 _ rfl
        have cv0 : ∀ n os, (Go.Sort.grow (wr.drewN n) os).cell? ⟨blk, a * 6, none⟩ = some (.string (txt v.a.name)) := fun n os => gcv n os 0 _ rfl
        have cv1 : ∀ n os, (Go.Sort.grow (wr.drewN n) os).cell? ⟨blk, a * 6 + 1, none⟩ = some (.string (txt v.a.key)) := fun n os => gcv n os 1 _ rfl
        have cv2 : ∀ n os, (Go.Sort.grow (wr.drewN n) os).cell? ⟨blk, a * 6 + 2, none⟩ = some (.int .i64 v.a.kind) := fun n os => gcv n os 2 _ rfl
        have cv3 : ∀ n os, (Go.Sort.grow (wr.drewN n) os).cell? ⟨blk, a * 6 + 3, none⟩ = some (.int .u64 (v.a.num : Int)) := fun n os => gcv n os 3 _ rfl
        have cv4 : ∀ n os, (Go.Sort.grow (wr.drewN n) os).cell? ⟨blk, a * 6 + 4, none⟩ = some (.string (txt v.a.text)) := fun n os => gcv n os 4 _ rfl
        have cv5 : ∀ n os, (Go.Sort.grow (wr.drewN n) os).cell? ⟨blk, a * 6 + 5, none⟩ = some (.slice v.A v.k.len v.c) := fun n os => gcv n os 5 _ rfl
        have hc : ∀ n os, Calls Try.prog 33 #[.agg #[.string (txt u.a.name), .string (txt u.a.key), .int .i64 u.a.kind, .int .u64 (u.a.num : Int), .string (txt u.a.text), .slice u.A u.k.len u.c], .agg #[.string (txt v.a.name), .string (txt v.a.key), .int .i64 v.a.kind, .int .u64 (v.a.num : Int), .string (txt v.a.text), .slice v.A v.k.len v.c]] (Go.Sort.grow (wr.drewN n) os) fun e w' => e = .returned (.int .i64 (cfK u v)) ∧ ∃ q os', w' = Go.Sort.grow ((Go.Sort.grow (wr.drewN n) os).drewN q) os' := fun n os => order_any u.a v.a _ _ _ rfl rfl
        clear gcu gcv hu hv
        go_wp2_with fail
        go_quiet_grown (first | (go_at_call 33; refine Calls.grown_of (hc _ _)))
        have HN2 := Lib.hid ((HS.out).grown nq osq)
        clear cu0 cu1 cu2 cu3 cu4 cu5 cv0 cv1 cv2 cv3 cv4 cv5 hc
        generalize Go.Sort.grow (wr.drewN nq) osq = w2 at HN2 ⊢
        clear nq osq
        go_wp2
        go_roundw
        case rel => exact ⟨h + 1, j, by go_num, rfl, by omega, by omega, hj, Lib.hid ⟨.inr (by rw [Nat.add_sub_cancel, ← HU.out.1, ← HU.out.2.1]; exact HU.out.2.2.1 hd), HI.out.2⟩, HN2⟩
        case measure => simp [intOf]; omega
      · have hd' : decide (cfK u v < 0) = false := decide_eq_false hd
        have gcu := fun n os => sw_at6 ((HS.out).grown n os) R.out HZ.out (i := h) (by omega)
        have gcv := fun n os => sw_at6 ((HS.out).grown n os) R.out HZ.out (i := a) (by omega)
        rw [← hu] at gcu
        rw [← hv] at gcv
        have cu0 : ∀ n os, (Go.Sort.grow (wr.drewN n) os).cell? ⟨blk, h * 6, none⟩ = some (.string (txt u.a.name)) := fun n os => gcu n os 0 _ rfl
        have cu1 : ∀ n os, (Go.Sort.grow (wr.drewN n) os).cell? ⟨blk, h * 6 + 1, none⟩ = some (.string (txt u.a.key)) := fun n os => gcu n os 1 _ rfl
        have cu2 : ∀ n os, (Go.Sort.grow (wr.drewN n) os).cell? ⟨blk, h * 6 + 2, none⟩ = some (.int .i64 u.a.kind) := fun n os => gcu n os 2 _ rfl
        have cu3 : ∀ n os, (Go.Sort.grow (wr.drewN n) os).cell? ⟨blk, h * 6 + 3, none⟩ = some (.int .u64 (u.a.num : Int)) := fun n os => gcu n os 3 _ rfl
        have cu4 : ∀ n os, (Go.Sort.grow (wr.drewN n) os).cell? ⟨blk, h * 6 + 4, none⟩ = some (.string (txt u.a.text)) := fun n os => gcu n os 4 _ rfl
        have cu5 : ∀ n os, (Go.Sort.grow (wr.drewN n) os).cell? ⟨blk, h * 6 + 5, none⟩ = some (.slice u.A u.k.len u.c) := fun n os => gcu n os 5 _ rfl
        have cv0 : ∀ n os, (Go.Sort.grow (wr.drewN n) os).cell? ⟨blk, a * 6, none⟩ = some (.string (txt v.a.name)) := fun n os => gcv n os 0 _ rfl
        have cv1 : ∀ n os, (Go.Sort.grow (wr.drewN n) os).cell? ⟨blk, a * 6 + 1, none⟩ = some (.string (txt v.a.key)) := fun n os => gcv n os 1 _ rfl
        have cv2 : ∀ n os, (Go.Sort.grow (wr.drewN n) os).cell? ⟨blk, a * 6 + 2, none⟩ = some (.int .i64 v.a.kind) := fun n os => gcv n os 2 _ rfl
        have cv3 : ∀ n os, (Go.Sort.grow (wr.drewN n) os).cell? ⟨blk, a * 6 + 3, none⟩ = some (.int .u64 (v.a.num : Int)) := fun n os => gcv n os 3 _ rfl
        have cv4 : ∀ n os, (Go.Sort.grow (wr.drewN n) os).cell? ⟨blk, a * 6 + 4, none⟩ = some (.string (txt v.a.text)) := fun n os => gcv n os 4 _ rfl
        have cv5 : ∀ n os, (Go.Sort.grow (wr.drewN n) os).cell? ⟨blk, a * 6 + 5, none⟩ = some (.slice v.A v.k.len v.c) := fun n os => gcv n os 5 _ rfl
        have hc : ∀ n os, Calls Try.prog 33 #[.agg #[.string (txt u.a.name), .string (txt u.a.key), .int .i64 u.a.kind, .int .u64 (u.a.num : Int), .string (txt u.a.text), .slice u.A u.k.len u.c], .agg #[.string (txt v.a.name), .string (txt v.a.key), .int .i64 v.a.kind, .int .u64 (v.a.num : Int), .string (txt v.a.text), .slice v.A v.k.len v.c]] (Go.Sort.grow (wr.drewN n) os) fun e w' => e = .returned (.int .i64 (cfK u v)) ∧ ∃ q os', w' = Go.Sort.grow ((Go.Sort.grow (wr.drewN n) os).drewN q) os' := fun n os => order_any u.a v.a _ _ _ rfl rfl
        clear gcu gcv hu hv
        go_wp2_with fail
        go_quiet_grown (first | (go_at_call 33; refine Calls.grown_of (hc _ _)))
        have HN2 := Lib.hid ((HS.out).grown nq osq)
        clear cu0 cu1 cu2 cu3 cu4 cu5 cv0 cv1 cv2 cv3 cv4 cv5 hc
        generalize Go.Sort.grow (wr.drewN nq) osq = w2 at HN2 ⊢
        clear nq osq
        go_wp2
        go_roundw
        case rel => exact ⟨i, h, rfl, rfl, hi, by omega, by omega, Lib.hid ⟨HI.out.1, .inr (by rw [← HU.out.1, ← HU.out.2.1, ← Bool.not_eq_true]; exact fun e => by have := HU.out.2.2.2 e; omega)⟩, HN2⟩
        case measure => simp [intOf]; omega
    · have e : i = j := by omega
      subst e
      have i2 : ¬ (i : Int) < (i : Int) := by omega
      go_wp2
      go_loopw [13] (fun s13 wr => ∃ (k : Nat) (dk : Array Kd), s13 = .int .i64 (k : Int) ∧ a ≤ k ∧ k + 1 ≤ i ∧ dk.size = d.size ∧ Hid (PermIn a i d dk ∧ UpI a k d dk) ∧ Hid (SwK w0 blk dk wr)) (fun s13 _ => i - (intOf s13).toNat)
      case atStart => exact ⟨a, d, rfl, Nat.le_refl _, hi, rfl, Lib.hid ⟨permIn_refl _ _ _, UpI.zero a d⟩, HS⟩
      case round =>
        clear HS
        obtain ⟨k, dk, rfl, hk1, hk2, hsk, HK, HS⟩ := hrel
        by_cases hlt : k + 1 < i
        · have g1 : (k : Int) < (i : Int) - 1 := by omega
          have g2 : (k : Int) < (d.size : Int) := by omega
          have g3 : (k : Int) + 1 < (d.size : Int) := by omega
          have g4 : (0 : Int) ≤ (k : Int) + 1 := by omega
          have hkd : k + 1 < d.size := by omega
          have hkz : dk.size = d0.size := by rw [hsk]; exact HZ.out
          obtain ⟨u, hu⟩ : ∃ u, u = dk[k]! := ⟨_, rfl⟩
          obtain ⟨v, hv⟩ : ∃ v, v = dk[(k + 1)]! := ⟨_, rfl⟩
          have hcu := sw_at6 HS.out R.out hkz (i := k) (by omega)
          have hcv := sw_at6 HS.out R.out hkz (i := (k + 1)) (by omega)
          rw [← hu] at hcu
          rw [← hv] at hcv
          have hfu : ∀ j, j < 6 → wr.frozen? ⟨blk, k * 6 + j, none⟩ = false := fun j hj => sw_fz6 HS.out R.out hkz (by omega) hj
          have hfv : ∀ j, j < 6 → wr.frozen? ⟨blk, (k + 1) * 6 + j, none⟩ = false := fun j hj => sw_fz6 HS.out R.out hkz (by omega) hj
          have HNW := Lib.hid (sw_swap6 HS.out R.out (i := k) (j := (k + 1)) (by omega) (by omega) hu hv)
          have fu0 : wr.frozen? ⟨blk, k * 6, none⟩ = false := hfu 0 (by omega)
          have fu1 := hfu 1 (by omega)
          have fu2 := hfu 2 (by omega)
          have fu3 := hfu 3 (by omega)
          have fu4 := hfu 4 (by omega)
          have fu5 := hfu 5 (by omega)
          have fv0 : wr.frozen? ⟨blk, (k + 1) * 6, none⟩ = false := hfv 0 (by omega)
          have fv1 := hfv 1 (by omega)
          have fv2 := hfv 2 (by omega)
          have fv3 := hfv 3 (by omega)
          have fv4 := hfv 4 (by omega)
          have fv5 := hfv 5 (by omega)
          have cu0 : wr.cell? ⟨blk, k * 6, none⟩ = _ := hcu 0 _ rfl
          have cu1 : wr.cell? ⟨blk, k * 6 + 1, none⟩ = _ := hcu 1 _ rfl
          have cu2 : wr.cell? ⟨blk, k * 6 + 2, none⟩ = _ := hcu 2 _ rfl
          have cu3 : wr.cell? ⟨blk, k * 6 + 3, none⟩ = _ := hcu 3 _ rfl
          have cu4 : wr.cell? ⟨blk, k * 6 + 4, none⟩ = _ := hcu 4 _ rfl
          have cu5 : wr.cell? ⟨blk, k * 6 + 5, none⟩ = some (.slice u.A u.k.len u.c) := hcu 5 _ rfl
          have cv0 : wr.cell? ⟨blk, (k + 1) * 6, none⟩ = _ := hcv 0 _ rfl
          have cv1 : wr.cell? ⟨blk, (k + 1) * 6 + 1, none⟩ = _ := hcv 1 _ rfl
          have cv2 : wr.cell? ⟨blk, (k + 1) * 6 + 2, none⟩ = _ := hcv 2 _ rfl
          have cv3 : wr.cell? ⟨blk, (k + 1) * 6 + 3, none⟩ = _ := hcv 3 _ rfl
          have cv4 : wr.cell? ⟨blk, (k + 1) * 6 + 4, none⟩ = _ := hcv 4 _ rfl
          have cv5 : wr.cell? ⟨blk, (k + 1) * 6 + 5, none⟩ = some (.slice v.A v.k.len v.c) := hcv 5 _ rfl
          clear hcu hcv hfu hfv hu hv
          clear hkz
          go_wp2_with fail
          go_big_region_o
          clear fu0 fu1 fu2 fu3 fu4 fu5 fv0 fv1 fv2 fv3 fv4 fv5 cu0 cu1 cu2 cu3 cu4 cu5 cv0 cv1 cv2 cv3 cv4 cv5
          go_wp2
          go_roundw
          case rel => exact ⟨k + 1, swp dk k (k + 1), by go_num, by omega, by omega, by rw [size_swp]; exact hsk, Lib.hid ⟨permIn_trans _ _ _ _ _ HK.out.1 (swp_permIn dk a i k (k + 1) (by omega) (by omega) (by omega) (by omega) (by omega)), HK.out.2.step hk1 (by omega)⟩, HNW⟩
          case measure => simp [intOf]; omega
        · have g1 : ¬ (k : Int) < (i : Int) - 1 := by omega
          have HF : Hid (∃ d', SymP ltK a b d d' ∧ SwK w0 blk d' wr) := Lib.hid (by
            have e : k = i - 1 := by omega
            subst e
            exact ⟨dk, sym_left_done KI.out hi hj HI.out.1 HI.out.2 (up_rot HK.out.1 HK.out.2 hi), HS.out⟩)
          go_wp2
          refine bodyPost_ret (results_none rfl _ _ _) rfl ?_
          exact ⟨rfl, HF.out⟩
set_option maxRecDepth 100000 in
set_option maxHeartbeats 4000000 in
theorem sym_right (blk cap a m b : Nat) (d0 d : Array Kd) (w0 w : World) (R : RwK w0 blk d0) (hs : d.size = d0.size) (S : SwK w0 blk d w) (I : SymI ltK Kd.p a m b d) (hm : b = m + 1) (ham : a + 1 < m) (hsz : d.size ≤ 1000000) :
    Calls Try.prog 57 #[.slice (some ⟨blk, 0, none⟩) d.size cap, .int .i64 (a : Int), .int .i64 (m : Int), .int .i64 (b : Int), (.func (.func 33) #[] #[])] w fun e w' =>
      e = .returned (.tuple #[]) ∧ ∃ d', SymP ltK a b d d' ∧ SwK w0 blk d' w' := by
  have S0 := Lib.hid S
  have KI : Hid (SymI ltK Kd.p a m (m + 1) d) := Lib.hid (by rw [← hm]; exact I)
  have hbs := I.bs
  have hm1 : m < b := by omega
  have hm2 : b ≤ m + 1 := by omega
  have n1 : ((m : Int) - (a : Int) == 1) = false := beq_eq_false_iff_ne.2 (by omega)
  have n2 : ((b : Int) - (m : Int) == 1) = true := by rw [show (b : Int) - (m : Int) = 1 by omega]; rfl
  have R : Hid (RwK w0 blk d0) := Lib.hid R
  have HZ := Lib.hid hs
  have HE := Lib.hid hm
  clear S hs I hm
  have i3 : (d.size : Int) ≤ 1000000 := by omega
  have mixed : Try.prog.follows .mixedOrders = true := by kernel_rfl
  go_enter Try.func57, Try.ntmps57
  go_wp2
  clear n1 n2
  generalize ((m : Int) - (a : Int) == 1) = b1
  generalize ((b : Int) - (m : Int) == 1) = b2
  go_loopw [14, 15] (fun s14 s15 wr => ∃ (i j : Nat), s14 = .int .i64 (i : Int) ∧ s15 = .int .i64 (j : Int) ∧ a ≤ i ∧ i ≤ j ∧ j ≤ m ∧ Hid ((i = a ∨ ltK d[m]! d[i - 1]! = false) ∧ (j = m ∨ ltK d[m]! d[j]! = true)) ∧ Hid (SwK w0 blk d wr)) (fun s14 s15 _ => (intOf s15).toNat - (intOf s14).toNat)
  case atStart => exact ⟨a, m, rfl, rfl, by omega, by omega, Nat.le_refl _, Lib.hid ⟨.inl rfl, .inl rfl⟩, S0⟩
  case round =>
    clear S0
    obtain ⟨i, j, rfl, rfl, hi, hij, hj, HI, HS⟩ := hrel
    by_cases hlt : i < j
    · obtain ⟨h, hh⟩ : ∃ h, h = (i + j) / 2 := ⟨_, rfl⟩
      have eh : ((i : Int) + (j : Int)) / 2 = (h : Int) := by omega
      have g1 : i ≤ h := by omega
      have g2 : h < j := by omega
      have g3 : (h : Int) < (d.size : Int) := by omega
      have g4 : (m : Int) < (d.size : Int) := by omega
      have g5 : (i : Int) < (j : Int) := by omega
      obtain ⟨u, hu⟩ : ∃ u, u = d[m]! := ⟨_, rfl⟩
      obtain ⟨v, hv⟩ : ∃ v, v = d[h]! := ⟨_, rfl⟩
      have hp : cfK u v < 0 ↔ ltK u v = true := ltK_lt (by rw [hu, hv]; exact KI.out.lf h m (by omega) (by omega) (Nat.le_refl _) (by omega))
      have HU := Lib.hid (And.intro hu (And.intro hv hp))
      clear hh hp
      by_cases hd : cfK u v < 0
      · have hd' : decide (cfK u v < 0) = true := decide_eq_true hd
        have gcu := fun n os => sw_at6 ((HS.out).grown n os) R.out HZ.out (i := m) (by omega)
        have gcv := fun n os => sw_at6 ((HS.out).grown n os) R.out HZ.out (i := h) (by omega)
        rw [← hu] at gcu
        rw [← hv] at gcv
        have cu0 : ∀ n os, (Go.Sort.grow (wr.drewN n) os).cell? ⟨blk, m * 6, none⟩ = some (.string (txt u.a.name)) := fun n os => gcu n os 0 _ rfl
        have cu1 : ∀ n os, (Go.Sort.grow (wr.drewN n) os).cell? ⟨blk, m * 6 + 1, none⟩ = some (.string (txt u.a.key)) := fun n os => gcu n os 1 _ rfl
        have cu2 : ∀ n os, (Go.Sort.grow (wr.drewN n) os).cell? ⟨blk, m * 6 + 2, none⟩ = some (.int .i64 u.a.kind) := fun n os => gcu n os 2 _ rfl
        have cu3 : ∀ n os, (Go.Sort.grow (wr.drewN n) os).cell? ⟨blk, m * 6 + 3, none⟩ = some (.int .u64 (u.a.num : Int)) := fun n os => gcu n os 3 _ rfl
        have cu4 : ∀ n os, (Go.Sort.grow (wr.drewN n) os).cell? ⟨blk, m * 6 + 4, none⟩ = some (.string (txt u.a.text)) := fun n os => gcu n os 4 _ rfl
        have cu5 : ∀ n os, (Go.Sort.grow (wr.drewN n) os).cell? ⟨blk, m * 6 + 5, none⟩ = some (.slice u.A u.k.len u.c) := fun n os => gcu n os 5 _ rfl
        have cv0 : ∀ n os, (Go.Sort.grow (wr.drewN n) os).cell? ⟨blk, h * 6, none⟩ = some (.string (txt v.a.name)) := fun n os => gcv n os 0 _ rfl
        have cv1 : ∀ n os, (Go.Sort.grow (wr.drewN n) os).cell? ⟨blk, h * 6 + 1, none⟩ = some (.string (txt v.a.key)) := fun n os => gcv n os 1 _ rfl
        have cv2 : ∀ n os, (Go.Sort.grow (wr.drewN n) os).cell? ⟨blk, h * 6 + 2, none⟩ = some (.int .i64 v.a.kind) := fun n os => gcv n os 2 _ rfl
        have cv3 : ∀ n os, (Go.Sort.grow (wr.drewN n) os).cell? ⟨blk, h * 6 + 3, none⟩ = some (.int .u64 (v.a.num : Int)) := fun n os => gcv n os 3 _ rfl
        have cv4 : ∀ n os, (Go.Sort.grow (wr.drewN n) os).cell? ⟨blk, h * 6 + 4, none⟩ = some (.string (txt v.a.text)) := fun n os => gcv n os 4 _ rfl
        have cv5 : ∀ n os, (Go.Sort.grow (wr.drewN n) os).cell? ⟨blk, h * 6 + 5, none⟩ = some (.slice v.A v.k.len v.c) := fun n os => gcv n os 5 _ rfl
        have hc : ∀ n os, Calls Try.prog 33 #[.agg #[.string (txt u.a.name), .string (txt u.a.key), .int .i64 u.a.kind, .int .u64 (u.a.num : Int), .string (txt u.a.text), .slice u.A u.k.len u.c], .agg #[.string (txt v.a.name), .string (txt v.a.key), .int .i64 v.a.kind, .int .u64 (v.a.num : Int), .string (txt v.a.text), .slice v.A v.k.len v.c]] (Go.Sort.grow (wr.drewN n) os) fun e w' => e = .returned (.int .i64 (cfK u v)) ∧ ∃ q os', w' = Go.Sort.grow ((Go.Sort.grow (wr.drewN n) os).drewN q) os' := fun n os => order_any u.a v.a _ _ _ rfl rfl
        clear gcu gcv hu hv
        go_wp2_with fail
        go_quiet_grown (first | (go_at_call 33; refine Calls.grown_of (hc _ _)))
        have HN2 := Lib.hid ((HS.out).grown nq osq)
        clear cu0 cu1 cu2 cu3 cu4 cu5 cv0 cv1 cv2 cv3 cv4 cv5 hc
        generalize Go.Sort.grow (wr.drewN nq) osq = w2 at HN2 ⊢
        clear nq osq
        go_wp2
        go_roundw
        case rel => exact ⟨i, h, rfl, rfl, hi, by omega, by omega, Lib.hid ⟨HI.out.1, .inr (by rw [← HU.out.1, ← HU.out.2.1]; exact HU.out.2.2.1 hd)⟩, HN2⟩
        case measure => simp [intOf]; omega
      · have hd' : decide (cfK u v < 0) = false := decide_eq_false hd
        have gcu := fun n os => sw_at6 ((HS.out).grown n os) R.out HZ.out (i := m) (by omega)
        have gcv := fun n os => sw_at6 ((HS.out).grown n os) R.out HZ.out (i := h) (by omega)
        rw [← hu] at gcu
        rw [← hv] at gcv
        have cu0 : ∀ n os, (Go.Sort.grow (wr.drewN n) os).cell? ⟨blk, m * 6, none⟩ = some (.string (txt u.a.name)) := fun n os => gcu n os 0 _ rfl
        have cu1 : ∀ n os, (Go.Sort.grow (wr.drewN n) os).cell? ⟨blk, m * 6 + 1, none⟩ = some (.string (txt u.a.key)) := fun n os => gcu n os 1 _ rfl
        have cu2 : ∀ n os, (Go.Sort.grow (wr.drewN n) os).cell? ⟨blk, m * 6 + 2, none⟩ = some (.int .i64 u.a.kind) := fun n os => gcu n os 2 _ rfl
        have cu3 : ∀ n os, (Go.Sort.grow (wr.drewN n) os).cell? ⟨blk, m * 6 + 3, none⟩ = some (.int .u64 (u.a.num : Int)) := fun n os => gcu n os 3 _ rfl
        have cu4 : ∀ n os, (Go.Sort.grow (wr.drewN n) os).cell? ⟨blk, m * 6 + 4, none⟩ = some (.string (txt u.a.text)) := fun n os => gcu n os 4 _ rfl
        have cu5 : ∀ n os, (Go.Sort.grow (wr.drewN n) os).cell? ⟨blk, m * 6 + 5, none⟩ = some (.slice u.A u.k.len u.c) := fun n os => gcu n os 5 _ rfl
        have cv0 : ∀ n os, (Go.Sort.grow (wr.drewN n) os).cell? ⟨blk, h * 6, none⟩ = some (.string (txt v.a.name)) := fun n os => gcv n os 0 _ rfl
        have cv1 : ∀ n os, (Go.Sort.grow (wr.drewN n) os).cell? ⟨blk, h * 6 + 1, none⟩ = some (.string (txt v.a.key)) := fun n os => gcv n os 1 _ rfl
        have cv2 : ∀ n os, (Go.Sort.grow (wr.drewN n) os).cell? ⟨blk, h * 6 + 2, none⟩ = some (.int .i64 v.a.kind) := fun n os => gcv n os 2 _ rfl
        have cv3 : ∀ n os, (Go.Sort.grow (wr.drewN n) os).cell? ⟨blk, h * 6 + 3, none⟩ = some (.int .u64 (v.a.num : Int)) := fun n os => gcv n os 3 _ rfl
        have cv4 : ∀ n os, (Go.Sort.grow (wr.drewN n) os).cell? ⟨blk, h * 6 + 4, none⟩ = some (.string (txt v.a.text)) := fun n os => gcv n os 4 _ rfl
        have cv5 : ∀ n os, (Go.Sort.grow (wr.drewN n) os).cell? ⟨blk, h * 6 + 5, none⟩ = some (.slice v.A v.k.len v.c) := fun n os => gcv n os 5 _ rfl
        have hc : ∀ n os, Calls Try.prog 33 #[.agg #[.string (txt u.a.name), .string (txt u.a.key), .int .i64 u.a.kind, .int .u64 (u.a.num : Int), .string (txt u.a.text), .slice u.A u.k.len u.c], .agg #[.string (txt v.a.name), .string (txt v.a.key), .int .i64 v.a.kind, .int .u64 (v.a.num : Int), .string (txt v.a.text), .slice v.A v.k.len v.c]] (Go.Sort.grow (wr.drewN n) os) fun e w' => e = .returned (.int .i64 (cfK u v)) ∧ ∃ q os', w' = Go.Sort.grow ((Go.Sort.grow (wr.drewN n) os).drewN q) os' := fun n os => order_any u.a v.a _ _ _ rfl rfl
        clear gcu gcv hu hv
        go_wp2_with fail
        go_quiet_grown (first | (go_at_call 33; refine Calls.grown_of (hc _ _)))
        have HN2 := Lib.hid ((HS.out).grown nq osq)
        clear cu0 cu1 cu2 cu3 cu4 cu5 cv0 cv1 cv2 cv3 cv4 cv5 hc
        generalize Go.Sort.grow (wr.drewN nq) osq = w2 at HN2 ⊢
        clear nq osq
        go_wp2
        go_roundw
        case rel => exact ⟨h + 1, j, by go_num, rfl, by omega, by omega, hj, Lib.hid ⟨.inr (by rw [Nat.add_sub_cancel, ← HU.out.1, ← HU.out.2.1, ← Bool.not_eq_true]; exact fun e => by have := HU.out.2.2.2 e; omega), HI.out.2⟩, HN2⟩
        case measure => simp [intOf]; omega
    · have e : i = j := by omega
      subst e
      have i2 : ¬ (i : Int) < (i : Int) := by omega
      go_wp2
      go_loopw [17] (fun s17 wr => ∃ (k : Nat) (dk : Array Kd), s17 = .int .i64 (k : Int) ∧ i ≤ k ∧ k ≤ m ∧ dk.size = d.size ∧ Hid (PermIn i (m + 1) d dk ∧ DnI m k d dk) ∧ Hid (SwK w0 blk dk wr)) (fun s17 _ => (intOf s17).toNat)
      case atStart => exact ⟨m, d, rfl, by omega, by omega, rfl, Lib.hid ⟨permIn_refl _ _ _, DnI.zero m d⟩, HS⟩
      case round =>
        clear HS
        obtain ⟨k, dk, rfl, hk1, hk2, hsk, HK, HS⟩ := hrel
        by_cases hlt : i < k
        · obtain ⟨q, hq⟩ : ∃ q, k = q + 1 := ⟨k - 1, by omega⟩
          have HQ := Lib.hid hq
          have eq1 : (k : Int) - 1 = (q : Int) := by omega
          have g1 : (i : Int) < (k : Int) := by omega
          have g2 : (k : Int) < (d.size : Int) := by omega
          have g3 : (q : Int) < (d.size : Int) := by omega
          have g4 : q < k := by omega
          have hkd : k < d.size := by omega
          have hkz : dk.size = d0.size := by rw [hsk]; exact HZ.out
          clear hq
          obtain ⟨u, hu⟩ : ∃ u, u = dk[k]! := ⟨_, rfl⟩
          obtain ⟨v, hv⟩ : ∃ v, v = dk[q]! := ⟨_, rfl⟩
          have hcu := sw_at6 HS.out R.out hkz (i := k) (by omega)
          have hcv := sw_at6 HS.out R.out hkz (i := q) (by omega)
          rw [← hu] at hcu
          rw [← hv] at hcv
          have hfu : ∀ j, j < 6 → wr.frozen? ⟨blk, k * 6 + j, none⟩ = false := fun j hj => sw_fz6 HS.out R.out hkz (by omega) hj
          have hfv : ∀ j, j < 6 → wr.frozen? ⟨blk, q * 6 + j, none⟩ = false := fun j hj => sw_fz6 HS.out R.out hkz (by omega) hj
          have HNW := Lib.hid (sw_swap6 HS.out R.out (i := k) (j := q) (by omega) (by omega) hu hv)
          have fu0 : wr.frozen? ⟨blk, k * 6, none⟩ = false := hfu 0 (by omega)
          have fu1 := hfu 1 (by omega)
          have fu2 := hfu 2 (by omega)
          have fu3 := hfu 3 (by omega)
          have fu4 := hfu 4 (by omega)
          have fu5 := hfu 5 (by omega)
          have fv0 : wr.frozen? ⟨blk, q * 6, none⟩ = false := hfv 0 (by omega)
          have fv1 := hfv 1 (by omega)
          have fv2 := hfv 2 (by omega)
          have fv3 := hfv 3 (by omega)
          have fv4 := hfv 4 (by omega)
          have fv5 := hfv 5 (by omega)
          have cu0 : wr.cell? ⟨blk, k * 6, none⟩ = _ := hcu 0 _ rfl
          have cu1 : wr.cell? ⟨blk, k * 6 + 1, none⟩ = _ := hcu 1 _ rfl
          have cu2 : wr.cell? ⟨blk, k * 6 + 2, none⟩ = _ := hcu 2 _ rfl
          have cu3 : wr.cell? ⟨blk, k * 6 + 3, none⟩ = _ := hcu 3 _ rfl
          have cu4 : wr.cell? ⟨blk, k * 6 + 4, none⟩ = _ := hcu 4 _ rfl
          have cu5 : wr.cell? ⟨blk, k * 6 + 5, none⟩ = some (.slice u.A u.k.len u.c) := hcu 5 _ rfl
          have cv0 : wr.cell? ⟨blk, q * 6, none⟩ = _ := hcv 0 _ rfl
          have cv1 : wr.cell? ⟨blk, q * 6 + 1, none⟩ = _ := hcv 1 _ rfl
          have cv2 : wr.cell? ⟨blk, q * 6 + 2, none⟩ = _ := hcv 2 _ rfl
          have cv3 : wr.cell? ⟨blk, q * 6 + 3, none⟩ = _ := hcv 3 _ rfl
          have cv4 : wr.cell? ⟨blk, q * 6 + 4, none⟩ = _ := hcv 4 _ rfl
          have cv5 : wr.cell? ⟨blk, q * 6 + 5, none⟩ = some (.slice v.A v.k.len v.c) := hcv 5 _ rfl
          clear hcu hcv hfu hfv hu hv
          clear hkz
          go_wp2_with fail
          go_big_region_o
          clear fu0 fu1 fu2 fu3 fu4 fu5 fv0 fv1 fv2 fv3 fv4 fv5 cu0 cu1 cu2 cu3 cu4 cu5 cv0 cv1 cv2 cv3 cv4 cv5
          go_wp2
          go_roundw
          case rel => exact ⟨q, swp dk k q, by first | rfl | (rw [show ((k : Int) - 1) = (q : Int) by omega]), by omega, by omega, by rw [size_swp]; exact hsk, Lib.hid ⟨permIn_trans _ _ _ _ _ HK.out.1 (swp_permIn dk i (m + 1) k q (by omega) (by omega) (by have := HQ.out; omega) (by omega) (by omega)), by
            have h1 := HK.out.2
            rw [HQ.out] at h1 ⊢
            exact h1.step (by have := HQ.out; omega) (by have := HQ.out; omega)⟩, HNW⟩
          case measure => simp [intOf]; omega
        · have g1 : ¬ (i : Int) < (k : Int) := by omega
          have HF : Hid (∃ d', SymP ltK a b d d' ∧ SwK w0 blk d' wr) := Lib.hid (by
            have e : k = i := by omega
            subst e
            rw [HE.out]
            exact ⟨dk, sym_right_done KI.out hi hk2 HI.out.1 HI.out.2 ⟨HK.out.1, HK.out.2⟩, HS.out⟩)
          go_wp2
          refine bodyPost_ret (results_none rfl _ _ _) rfl ?_
          exact ⟨rfl, HF.out⟩
end Go.Proofs.Ytgipnemcmiohlaa


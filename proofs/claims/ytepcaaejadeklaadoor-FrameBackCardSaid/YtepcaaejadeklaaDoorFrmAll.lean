/-
  What the document's All (package tollbarref04) answers. No condition but those of each theorem.
-/
import Derived.Test.YtepcaaejadeklaaDoorFrmGot
import Derived.Test.YtepcaaejadeklaaDoorFrmRow
namespace Go.Proofs.YtepcaaejadeklaaDoor
open Go.RowKit
set_option linter.unusedSimpArgs false

theorem Tryd.infoS : (Tryd.prog.info? 9).map (fun i => (i.zero, i.size, i.bytes)) = some (some (.string ⟨#[]⟩), 1, 16) := by kernel_rfl

theorem zeroS : (Value.string ⟨#[]⟩).cells.size = 1 := by rfl
theorem Vals.txts_shape {w : World} {d : Nat} {v : Value} {ls : List (List UInt8)} (h : Vals w d v (txts ls)) : ∃ A c, v = .slice A ls.length c := by
  obtain ⟨A, c, h, _⟩ := h
  exact ⟨A, c, by rw [h, txts_length]⟩

theorem getF_pos {s x : List UInt8} {n : Nat} (h : getF s = (x, n, 0)) : 5 ≤ n ∧ n ≤ s.length ∧ n = (getV s).2.1 + x.length + 4 ∧ x.length ≤ 8192 := by
  unfold getF at h
  by_cases c1 : (getV s).2.2 ≠ 0
  · rw [if_pos c1] at h; injection h with _ h; injection h with _ h; exact absurd h c1
  rw [if_neg c1] at h
  by_cases c2 : 8192 < (getV s).1
  · rw [if_pos c2] at h; injection h with _ h; injection h with _ h; exact absurd h (by decide)
  rw [if_neg c2] at h
  by_cases c3 : s.length < (getV s).2.1 + (getV s).1 + 4
  · rw [if_pos c3] at h; injection h with _ h; injection h with _ h; exact absurd h (by decide)
  rw [if_neg c3] at h
  by_cases c4 : bigB (crc (s.take ((getV s).2.1 + (getV s).1))) 4 ≠ (s.drop ((getV s).2.1 + (getV s).1)).take 4
  · rw [if_pos c4] at h; injection h with _ h; injection h with _ h; exact absurd h (by decide)
  rw [if_neg c4] at h
  injection h with hx h
  injection h with hn _
  have o := getV_own s (Decidable.not_not.1 c1)
  subst hx
  rw [List.length_drop, List.length_take]
  omega
theorem getF_err {s x : List UInt8} {n : Nat} {e : Int} (h : getF s = (x, n, e)) (he : e ≠ 0) : x = [] ∧ n = 0 := by
  unfold getF at h
  by_cases c1 : (getV s).2.2 ≠ 0
  · rw [if_pos c1] at h; injection h with h1 h; injection h with h2 h; exact ⟨h1.symm, h2.symm⟩
  rw [if_neg c1] at h
  by_cases c2 : 8192 < (getV s).1
  · rw [if_pos c2] at h; injection h with h1 h; injection h with h2 h; exact ⟨h1.symm, h2.symm⟩
  rw [if_neg c2] at h
  by_cases c3 : s.length < (getV s).2.1 + (getV s).1 + 4
  · rw [if_pos c3] at h; injection h with h1 h; injection h with h2 h; exact ⟨h1.symm, h2.symm⟩
  rw [if_neg c3] at h
  by_cases c4 : bigB (crc (s.take ((getV s).2.1 + (getV s).1))) 4 ≠ (s.drop ((getV s).2.1 + (getV s).1)).take 4
  · rw [if_pos c4] at h; injection h with h1 h; injection h with h2 h; exact ⟨h1.symm, h2.symm⟩
  rw [if_neg c4] at h
  injection h with _ h
  injection h with _ h
  exact absurd h.symm he

/-- The records that bytes begin with, how long they are, and why what is behind is none. -/
def allF : Nat → List UInt8 → List (List UInt8) × Nat × Int
  | 0, _ => ([], 0, 0)
  | f + 1, s => if s = [] then ([], 0, 0) else if (getF s).2.2 ≠ 0 then ([], 0, (getF s).2.2)
      else ((getF s).1 :: (allF f (s.drop (getF s).2.1)).1, (getF s).2.1 + (allF f (s.drop (getF s).2.1)).2.1, (allF f (s.drop (getF s).2.1)).2.2)
theorem allF_nil (f : Nat) : allF f [] = ([], 0, 0) := by cases f <;> simp [allF]
theorem allF_err (f : Nat) {s x : List UInt8} {n : Nat} {e : Int} (h0 : s ≠ []) (h : getF s = (x, n, e)) (he : e ≠ 0) : allF (f + 1) s = ([], 0, e) := by
  unfold allF; rw [if_neg h0, h, if_pos he]
theorem allF_ok (f : Nat) {s x : List UInt8} {n : Nat} (h0 : s ≠ []) (h : getF s = (x, n, 0)) : allF (f + 1) s = (x :: (allF f (s.drop n)).1, n + (allF f (s.drop n)).2.1, (allF f (s.drop n)).2.2) := by
  rw [allF, if_neg h0, h, if_neg (by simp)]
theorem allF_fuel (f : Nat) : ∀ (g : Nat) (s : List UInt8), s.length ≤ f → s.length ≤ g → allF f s = allF g s := by
  induction f with
  | zero =>
    intro g s h _
    have : s = [] := List.length_eq_zero_iff.1 (by omega)
    rw [this, allF_nil, allF_nil]
  | succ f ih =>
    intro g s h1 h2
    by_cases h0 : s = []
    · rw [h0, allF_nil, allF_nil]
    have := List.length_pos_iff.2 h0
    obtain ⟨g, rfl⟩ : ∃ g', g = g' + 1 := ⟨g - 1, by omega⟩
    obtain ⟨x, n, e, h⟩ : ∃ x n e, getF s = (x, n, e) := ⟨_, _, _, rfl⟩
    by_cases he : e ≠ 0
    · rw [allF_err f h0 h he, allF_err g h0 h he]
    obtain rfl : e = 0 := Decidable.not_not.1 he
    have hp := getF_pos h
    have hd : (s.drop n).length = s.length - n := List.length_drop
    rw [allF_ok f h0 h, allF_ok g h0 h, ih g (s.drop n) (by omega) (by omega)]
/-- All, of all the bytes. -/
def recs (s : List UInt8) : List (List UInt8) × Nat × Int := allF s.length s
theorem recs_nil : recs [] = ([], 0, 0) := rfl
theorem recs_err {s x : List UInt8} {n : Nat} {e : Int} (h0 : s ≠ []) (h : getF s = (x, n, e)) (he : e ≠ 0) : recs s = ([], 0, e) := by
  have := List.length_pos_iff.2 h0
  unfold recs
  rw [allF_fuel s.length (s.length - 1 + 1) s (Nat.le_refl _) (by omega)]
  exact allF_err _ h0 h he
theorem recs_ok {s x : List UInt8} {n : Nat} (h0 : s ≠ []) (h : getF s = (x, n, 0)) : recs s = (x :: (recs (s.drop n)).1, n + (recs (s.drop n)).2.1, (recs (s.drop n)).2.2) := by
  have hp := getF_pos h
  have := List.length_pos_iff.2 h0
  have hd : (s.drop n).length = s.length - n := List.length_drop
  unfold recs
  rw [allF_fuel s.length (s.length - 1 + 1) s (Nat.le_refl _) (by omega), allF_ok _ h0 h, allF_fuel (s.length - 1) (s.drop n).length (s.drop n) (by omega) (Nat.le_refl _)]

def joinA (p : List (List UInt8)) (k : Nat) (r : List (List UInt8) × Nat × Int) : List (List UInt8) × Nat × Int := (p ++ r.1, k + r.2.1, r.2.2)

/-- The document's All hands back the row R. -/
def RAllF (R : List (List UInt8) × Nat × Int) (w : World) (r : Ending) (w' : World) : Prop :=
  ∃ v d, r = .returned (.tuple #[v, .int .i64 (R.2.1 : Int), .int .i64 R.2.2]) ∧ Vals w' d v (txts R.1) ∧ Below w.heap.size w w'

set_option maxRecDepth 100000 in
set_option maxHeartbeats 1000000 in
theorem rallF_any (s : List UInt8) (w : World) (hs : s.length ≤ 90000) : Calls Tryd.prog 17 #[.string (txt s)] w (RAllF (recs s) w) := by
  obtain ⟨R, hR⟩ : ∃ R, R = recs s := ⟨_, rfl⟩
  rw [← hR]
  have HR : Hid (R = recs s) := Lib.hid hR
  clear hR
  have hsz := txt_size s
  go_enter Tryd.func17, Tryd.ntmps17
  go_wp2
  go_loopw [5, 6] (fun u i wr => ∃ (k : Nat) (p : List (List UInt8)), k ≤ s.length ∧ p.length ≤ k ∧ i = .int .i64 (k : Int) ∧ Hid (R = joinA p k (recs (s.drop k))) ∧ OwnV 9 wr w.heap.size u (txts p) ∧ Below w.heap.size w wr) (fun _ i _ => s.length - (intOf i).toNat)
  case atStart => exact ⟨0, [], Nat.zero_le _, Nat.le_refl _, rfl, Lib.hid (by rw [HR.out]; unfold joinA; simp), OwnV.nil _ _, Below.refl _ _⟩
  case round =>
    obtain ⟨k, p, hk, hp, rfl, HG, hown, hB⟩ := hrel
    have hpl := txts_length p
    by_cases hlt : k < s.length
    · obtain ⟨S, hS⟩ : ∃ S, S = s.drop k := ⟨_, rfl⟩
      have hSl : S.length = s.length - k := by rw [hS, List.length_drop]
      have hS0 : S ≠ [] := by intro h; rw [h] at hSl; simp at hSl; omega
      have hx1 : (txt s).extract k s.length = txt S := by rw [txt_extract, List.take_of_length_le (Nat.le_refl _), hS]
      obtain ⟨x, n, e, hx⟩ : ∃ x n e, getF S = (x, n, e) := ⟨_, _, _, rfl⟩
      have HC : Hid (Calls Tryd.prog 13 #[.string (txt S)] wr (fun r w' => r = .returned (.tuple #[.string (txt x), .int .i64 (n : Int), .int .i64 e]) ∧ Below wr.heap.size wr w')) := Lib.hid (by
        have h := rgetF_any S wr (by omega)
        unfold RGetF getFOut at h
        rw [hx] at h
        exact h)
      have hG := HG.out
      rw [← hS] at hG
      clear HG
      by_cases he : e ≠ 0
      · rw [recs_err hS0 hx he] at hG
        have hb1 : (e == 0) = false := by simpa using he
        have hb2 : (e != 0) = true := by simpa using he
        obtain ⟨d, hv, -⟩ := hown.vals
        obtain ⟨A, c, rfl⟩ := hv.txts_shape
        have HP : ∀ w', Hid (Below wr.heap.size wr w' → RAllF R w (.returned (.tuple #[.slice A p.length c, .int .i64 (k : Int), .int .i64 e])) w') := fun w' => Lib.hid fun hb => ⟨_, d, by rw [hG]; rfl, by rw [hG]; unfold joinA; rw [List.append_nil]; exact hv.below' hb, hB.trans (hb.mono hB.size)⟩
        have HP := Lib.hid HP
        clear hG he hx hS hS0 hSl hv hown hB
        go_wp2_with fail
        refine HC.out.mono ?_
        rintro r w1 ⟨rfl, hb1'⟩
        go_wp2
        go_ret3
        exact (HP.out _).out hb1'
      · obtain rfl : e = 0 := Decidable.not_not.1 he
        have hpos := getF_pos hx
        rw [recs_ok hS0 hx] at hG
        have HN : Hid (R = joinA (p ++ [x]) (k + n) (recs (s.drop (k + n)))) := Lib.hid (by
          rw [hG, hS, List.drop_drop]
          unfold joinA
          rw [List.append_assoc, Nat.add_assoc]
          rfl)
        clear hG he hx hS hS0
        go_wp2_with fail
        refine HC.out.mono ?_
        rintro r w1 ⟨rfl, hb1'⟩
        have hown1 := hown.below hb1'
        have hB1 := hB.trans (hb1'.mono hB.size)
        clear hown hB hb1'
        have hA2 : Below w1.heap.size w1 (w1.alloc (.cells #[.string (txt x)] 9)) := (Below.refl _ _).alloc (Nat.le_refl _) _
        have hB2 := hB1.trans (hA2.mono hB1.size)
        have HOWN := Lib.hid (hown1.below hA2)
        have HB2 := Lib.hid hB2
        have HBLK := Lib.hid (Blk.new w1 9 #[.string (txt x)])
        clear hA2 hB1 hown1 hB2
        go_wp2_with (at_builtin; refine wpList_append_v Tryd.underlying40 Tryd.infoS zeroS rfl (.tmp 27) (.tmp 29) rfl rfl w.heap.size _ (txts p) rfl HOWN.out w1.heap.size rfl (.string (txt x)) HBLK.out rfl ?h1 ?h2 ?h3 ?_)
        case h1 => omega
        case h2 => omega
        case h3 => exact HB2.out.size
        intro v' w' hap
        have hb' := hap.below HOWN.out HB2.out.size
        have hown' := hap.1
        have hB' := HB2.out.trans hb'
        rw [txts_snoc] at hown'
        clear hap hb'
        go_wp2
        go_roundw
        case rel => exact ⟨k + n, p ++ [x], by omega, by simp; omega, by go_num, HN, hown', hB'⟩
        case measure => simp [intOf]; omega
    · obtain rfl : k = s.length := by omega
      have hG := HG.out
      rw [List.drop_length, recs_nil] at hG
      obtain ⟨d, hv, -⟩ := hown.vals
      obtain ⟨A, c, rfl⟩ := hv.txts_shape
      have HP : Hid (RAllF R w (.returned (.tuple #[.slice A p.length c, .int .i64 (s.length : Int), .int .i64 0])) wr) := Lib.hid ⟨_, d, by rw [hG]; rfl, by rw [hG]; unfold joinA; rw [List.append_nil]; exact hv, hB⟩
      clear hG HG hv hown hB
      go_wp2
      go_ret3
      exact HP.out

end Go.Proofs.YtepcaaejadeklaaDoor

/- OctA OctB OctNum OctC OctD OctE OctF OctG OctH RowMem -/
import Derived.Test.YtodlhgflfcadmaaGreatRows
import Derived.WalkSpells
import Derived.Laws.CopyOwn
import Derived.Deep.Draws
import Derived.Deep.OwnRows
import Derived.Lib.Hide
import Derived.Deep.AppendLies
import Derived.Deep.Onto
set_option linter.unusedSimpArgs false
set_option linter.unusedVariables false
set_option maxRecDepth 100000
set_option maxHeartbeats 8000000
namespace Go.Proofs.YtodlhgflfcadmaaGreat
open Go.RowKit
theorem layS {α : Type} : (∀ (l : List α) (i : Nat) (a : α), l.toArray.setIfInBounds i a = (l.set i a).toArray) ∧ (∀ (x a : α) (l : List α), (x :: l).set 0 a = a :: l) ∧ (∀ (x a : α) (l : List α) (n : Nat), (x :: l).set (n + 1) a = x :: l.set n a) :=
  ⟨fun l i a => by simp, fun _ _ _ => rfl, fun _ _ _ _ => rfl⟩
theorem layG {α : Type} : (∀ (l : List α) (i : Nat), l.toArray[i]? = l[i]?) ∧ (∀ (a : α) (l : List α) (i : Nat), (a :: l)[i + 1]? = l[i]?) ∧ (∀ (a : α) (l : List α), (a :: l)[0]? = some a) :=
  ⟨fun l i => by simp, fun _ _ _ => rfl, fun _ _ => rfl⟩
abbrev lUp (x : Value) (y : Value) : Array Value := #[.string ⟨#[117, 112]⟩, .int .i64 1, .int .i64 3, .int .u64 0, .int .u64 0, .slice none 0 0, .bool false, .int .i64 0, .slice none 0 0, .string ⟨#[99, 108, 97, 115, 115]⟩, .int .i64 3, .int .i64 0, .int .u64 0, .int .u64 0, .slice none 0 0, .bool false, .int .i64 8, x, .string ⟨#[114, 117, 108, 101]⟩, .int .i64 3, .int .i64 0, .int .u64 0, .int .u64 0, .slice none 0 0, .bool false, .int .i64 16, y, .string ⟨#[100, 101, 102, 97, 117, 108, 116]⟩, .int .i64 1, .int .i64 6, .int .u64 0, .int .u64 0, .slice none 0 0, .bool true, .int .i64 0, .slice none 0 0]
abbrev lQ4 : Array Value := #[.string ⟨#[113, 117, 97, 110, 116, 117, 109]⟩, .int .i64 1, .int .i64 1, .int .u64 1500, .int .u64 100000, .slice none 0 0, .bool true, .int .i64 0, .slice none 0 0, .string ⟨#[114, 97, 116, 101]⟩, .int .i64 1, .int .i64 2, .int .u64 0, .int .u64 1000000, .slice none 0 0, .bool true, .int .i64 0, .slice none 0 0, .string ⟨#[98, 117, 114, 115, 116]⟩, .int .i64 1, .int .i64 1, .int .u64 1500, .int .u64 1000000, .slice none 0 0, .bool true, .int .i64 0, .slice none 0 0, .string ⟨#[108, 105, 109, 105, 116]⟩, .int .i64 1, .int .i64 1, .int .u64 1, .int .u64 64, .slice none 0 0, .bool true, .int .i64 0, .slice none 0 0]
abbrev lQ3 : Array Value := #[.string ⟨#[113, 117, 97, 110, 116, 117, 109]⟩, .int .i64 1, .int .i64 1, .int .u64 1500, .int .u64 100000, .slice none 0 0, .bool true, .int .i64 0, .slice none 0 0, .string ⟨#[114, 97, 116, 101]⟩, .int .i64 1, .int .i64 2, .int .u64 0, .int .u64 1000000, .slice none 0 0, .bool true, .int .i64 0, .slice none 0 0, .string ⟨#[98, 117, 114, 115, 116]⟩, .int .i64 1, .int .i64 1, .int .u64 1500, .int .u64 1000000, .slice none 0 0, .bool true, .int .i64 0, .slice none 0 0]
abbrev lLo : Array Value := #[.string ⟨#[108, 111, 119]⟩, .int .i64 1, .int .i64 1, .int .u64 0, .int .u64 65535, .slice none 0 0, .bool true, .int .i64 0, .slice none 0 0, .string ⟨#[104, 105, 103, 104]⟩, .int .i64 1, .int .i64 1, .int .u64 0, .int .u64 65535, .slice none 0 0, .bool true, .int .i64 0, .slice none 0 0, .string ⟨#[99, 108, 97, 115, 115]⟩, .int .i64 1, .int .i64 6, .int .u64 0, .int .u64 0, .slice none 0 0, .bool true, .int .i64 0, .slice none 0 0]
abbrev lSy (x : Value) : Array Value := #[.string ⟨#[115, 121, 115, 116, 101, 109]⟩, .int .i64 1, .int .i64 5, .int .u64 0, .int .u64 0, .slice none 0 0, .bool false, .int .i64 0, .slice none 0 0, .string ⟨#[112, 111, 114, 116]⟩, .int .i64 3, .int .i64 0, .int .u64 0, .int .u64 0, .slice none 0 0, .bool false, .int .i64 4, x]
theorem bAl {w : World} {o : Obj} : Below w.heap.size w (w.alloc o) := (Below.refl _ _).alloc (Nat.le_refl _) _
theorem hHd {p : Prop} (h : p) : Hid p := h
def byteV (b : UInt8) : Value := .int .u8 (b.toNat : Int)
def Blk (w : World) (g : Nat) (t : TypeId) (cs : Array Value) : Prop := w.heap[g]? = some (.cells cs t (0, 0))
section
variable {w w' : World} {g : Nat} {t : TypeId} {cs : Array Value}
theorem Blk.lt (h : Blk w g t cs) : g < w.heap.size := by
 rcases Nat.lt_or_ge g w.heap.size with hlt | hge
 ·exact hlt
 ·unfold Blk at h; rw [Array.getElem?_eq_none hge] at h; cases h
theorem Blk.cell (h : Blk w g t cs) (i : Nat) : w.cell? ⟨g, i, none⟩ = cs[i]? := cell_of_row w g i cs t (0, 0) h
theorem Blk.frozen (h : Blk w g t cs) (i : Nat) : w.frozen? ⟨g, i, none⟩ = false := by
 unfold Blk at h
 simp [World.frozen?, h]
theorem Blk.new (w : World) (t : TypeId) (cs : Array Value) : Blk (w.alloc (.cells cs t)) w.heap.size t cs := heap_alloc_new w _
theorem Blk.alloc (h : Blk w g t cs) (o : Obj) : Blk (w.alloc o) g t cs := (Below.heap_alloc w o g h.lt).trans h
theorem Blk.set_ (h : Blk w g t cs) (i : Nat) (u : Value) : Blk (w.setCell ⟨g, i, none⟩ u) g t (cs.setIfInBounds i u) := by
 unfold Blk at h ⊢
 simp [World.setCell, Array.getElem?_modify, h]
theorem Blk.far (h : Blk w g t cs) {p : Addr} (hp : g ≠ p.block) (u : Value) : Blk (w.setCell p u) g t cs := (Below.heap_setCell w p u g hp).trans h
theorem Blk.below {B : Nat} (h : Blk w g t cs) (hb : Below B w w') (hg : g < B) : Blk w' g t cs := (hb.block g hg).trans h
theorem Blk.grown {row : Option Nat} (h : Blk w g t cs) (hb : w.grownBy w' row) (hg : some g ≠ row) : Blk w' g t cs := (hb.block g h.lt hg).trans h
theorem Blk.ne_ {g' : Nat} {t' : TypeId} {cs' : Array Value} (h : Blk w g t cs) (h' : Blk w g' t' cs') (hne : t ≠ t') : g ≠ g' := by
 rintro rfl
 unfold Blk at h h'
 rw [h] at h'
 injection h' with h'
 injection h' with _ ht
 exact hne ht
end
def Sz (w : World) (n : Nat) : Prop := w.heap.size = n
def Rd (w : World) (d : Nat) (v : Value) (l : List UInt8) : Prop :=
 ∃ A c, v = .slice A l.length c ∧ l.length ≤ c ∧ l.length ≤ 140737488355328 ∧
  (0 < l.length → ∃ off, A = some ⟨d, off, none⟩ ∧ ∀ j b, l[j]? = some b → w.cell? ⟨d, off + j, none⟩ = some (byteV b))
section
variable {w w' : World} {d g : Nat} {v : Value} {l : List UInt8}
theorem Rd.len (h : Rd w d v l) : l.length ≤ 140737488355328 := by
 obtain ⟨_, _, _, h1, h2, _⟩ := h; omega
theorem Rd.nil (w : World) (d : Nat) : Rd w d (.slice none 0 0) [] := ⟨none, 0, rfl, Nat.le_refl _, by simp, fun h => absurd h (by simp)⟩
theorem Rd.keep (h : Rd w d v l) (hk : ∀ o, w'.cell? ⟨d, o, none⟩ = w.cell? ⟨d, o, none⟩) : Rd w' d v l := by
 obtain ⟨A, c, rfl, h1, h2, h3⟩ := h
 refine ⟨A, c, rfl, h1, h2, fun hp => ?_⟩
 obtain ⟨off, rfl, hc⟩ := h3 hp
 exact ⟨off, rfl, fun j b hb => (hk _).trans (hc j b hb)⟩
theorem Rd.lt (h : Rd w d v l) (hl : 0 < l.length) : d < w.heap.size := by
 obtain ⟨A, c, rfl, h1, h2, h3⟩ := h
 obtain ⟨off, rfl, hc⟩ := h3 hl
 exact World.block_lt_of_cell? w _ (hc 0 _ (List.getElem?_eq_getElem hl))
theorem Rd.heap (h : Rd w d v l) (hk : w'.heap[d]? = w.heap[d]?) : Rd w' d v l := h.keep fun _ => World.cell?_of_block (w := w) hk
theorem Rd.heap' (h : Rd w d v l) (hk : d < w.heap.size → w'.heap[d]? = w.heap[d]?) : Rd w' d v l := by
 by_cases hl : 0 < l.length
 ·exact h.heap (hk (h.lt hl))
 ·obtain ⟨A, c, rfl, h1, h2, h3⟩ := h
  exact ⟨A, c, rfl, h1, h2, fun hp => absurd hp hl⟩
theorem Rd.grown (h : Rd w d v l) (hb : w.grownBy w' (some g)) (hd : d ≠ g) : Rd w' d v l := h.heap' fun hlt => hb.block d hlt (by simpa using hd)
theorem Rd.below {B : Nat} (h : Rd w d v l) (hb : Below B w w') (hd : d < B) : Rd w' d v l := h.heap (hb.block d hd)
theorem Rd.below' (h : Rd w d v l) (hb : Below w.heap.size w w') : Rd w' d v l := h.heap' fun hlt => hb.block d hlt
theorem Rd.alloc (h : Rd w d v l) (o : Obj) : Rd (w.alloc o) d v l := h.heap' fun hlt => Below.heap_alloc w o d hlt
theorem Rd.setCell (h : Rd w d v l) {p : Addr} (hd : d ≠ p.block) (u : Value) : Rd (w.setCell p u) d v l := h.heap (Below.heap_setCell w p u d hd)
theorem Rd.block (h : Rd w d v l) (hl : l = []) (d' : Nat) : Rd w d' v l := by
 obtain ⟨A, c, rfl, h1, h2, _⟩ := h
 subst hl
 exact ⟨A, c, rfl, h1, h2, fun hp => absurd hp (by simp)⟩
theorem Rd.of_blk {t : TypeId} (h : Blk w d t (l.map byteV).toArray) (hl : l.length ≤ 140737488355328) : Rd w d (.slice (some ⟨d, 0, none⟩) l.length l.length) l :=
 ⟨_, _, rfl, Nat.le_refl _, hl, fun _ => ⟨0, rfl, fun j b hb => by rw [h.cell]; simp [hb]⟩⟩
end
section
variable {w w' : World} {d g g' : Nat} {l : List UInt8} {e : Int}
end
def fitsB (n : Int) : Bool := decide (1 ≤ n) && decide (n ≤ 8)
theorem fits_any (n : Int) (w : World) : Calls Tryz.prog 164 #[.int .i64 n] w fun e w' => e = .returned (.bool (fitsB n)) ∧ w = w' := by
 by_cases h1 : 1 ≤ n
 ·go_enter Tryz.func164, Tryz.ntmps164
  go_wp2
  go_ret
  exact ⟨by simp [fitsB, h1], rfl⟩
 ·have h2 : decide (1 ≤ n) = false := by simpa using h1
  go_enter Tryz.func164, Tryz.ntmps164
  go_wp2
  go_ret
  exact ⟨by rw [fitsB, h2]; simp, rfl⟩
theorem cl3 {w : World} {g : Nat} {t : TypeId} {x0 x1 x2 : Value} (h : Blk w g t #[x0, x1, x2]) : w.cell? ⟨g, 0, none⟩ = some x0 ∧ w.cell? ⟨g, 1, none⟩ = some x1 ∧ w.cell? ⟨g, 2, none⟩ = some x2 := ⟨h.cell 0, h.cell 1, h.cell 2⟩
theorem cl6 {w : World} {g : Nat} {t : TypeId} {x0 x1 x2 x3 x4 x5 : Value} (h : Blk w g t #[x0, x1, x2, x3, x4, x5]) : w.cell? ⟨g, 0, none⟩ = some x0 ∧ w.cell? ⟨g, 1, none⟩ = some x1 ∧ w.cell? ⟨g, 2, none⟩ = some x2 ∧ w.cell? ⟨g, 3, none⟩ = some x3 ∧ w.cell? ⟨g, 4, none⟩ = some x4 ∧ w.cell? ⟨g, 5, none⟩ = some x5 := ⟨h.cell 0, h.cell 1, h.cell 2, h.cell 3, h.cell 4, h.cell 5⟩
theorem cl9 {w : World} {g : Nat} {t : TypeId} {x0 x1 x2 x3 x4 x5 x6 x7 x8 : Value} (h : Blk w g t #[x0, x1, x2, x3, x4, x5, x6, x7, x8]) : w.cell? ⟨g, 0, none⟩ = some x0 ∧ w.cell? ⟨g, 1, none⟩ = some x1 ∧ w.cell? ⟨g, 2, none⟩ = some x2 ∧ w.cell? ⟨g, 3, none⟩ = some x3 ∧ w.cell? ⟨g, 4, none⟩ = some x4 ∧ w.cell? ⟨g, 5, none⟩ = some x5 ∧ w.cell? ⟨g, 6, none⟩ = some x6 ∧ w.cell? ⟨g, 7, none⟩ = some x7 ∧ w.cell? ⟨g, 8, none⟩ = some x8 := ⟨h.cell 0, h.cell 1, h.cell 2, h.cell 3, h.cell 4, h.cell 5, h.cell 6, h.cell 7, h.cell 8⟩
theorem Tryz.cells22o : (Tryz.prog.info? 5).map (fun i => (i.zero, i.size, i.bytes)) = some (some (.int .u8 0), 1, 1) := by kernel_rfl
section
variable {w : World} {d n k c : Nat} {A : Option Addr} {l : List UInt8}
theorem Rd.take (h : Rd w d (.slice A n c) l) (hk : k ≤ n) : Rd w d (.slice A k c) (l.take k) := by
 obtain ⟨A', c', hv, h1, h2, h3⟩ := h
 injection hv with e1 e2 e3
 subst e1 e2 e3
 have hl : (l.take k).length = k := by simp; omega
 refine ⟨A, c, by rw [hl], by omega, by omega, fun hp => ?_⟩
 obtain ⟨off, rfl, hc⟩ := h3 (by omega)
 exact ⟨off, rfl, fun j b hb => hc j b (by rw [List.getElem?_take] at hb; split at hb <;> simp_all)⟩
theorem Rd.drop (h : Rd w d (.slice A n c) l) (hk : k ≤ n) (_hne : ¬ c = k) : Rd w d (.slice (Option.map (fun x => x.add k) A) (n - k) (c - k)) (l.drop k) := by
 obtain ⟨A', c', hv, h1, h2, h3⟩ := h
 injection hv with e1 e2 e3
 subst e1 e2 e3
 have hl : (l.drop k).length = l.length - k := by simp
 refine ⟨_, _, by rw [hl], by omega, by omega, fun hp => ?_⟩
 obtain ⟨off, rfl, hc⟩ := h3 (by omega)
 refine ⟨off + k, ?_, fun j b hb => ?_⟩
 ·simp only [Option.map_some, Addr.add]
  by_cases h0 : k = 0 <;> simp [h0]
 ·have := hc (k + j) b (by rw [← hb, List.getElem?_drop])
  rwa [← Nat.add_assoc] at this
end
def nx (l : List UInt8) (e n : Int) : List UInt8 × List UInt8 × Int :=
 if e ≠ 0 then ([], l, e) else if n < 0 then ([], l, 1) else if (l.length : Int) < n then ([], l, 10) else (l.take n.toNat, l.drop n.toNat, 0)
theorem grown_set {w : World} {g i : Nat} (u : Value) : w.grownBy (w.setCell ⟨g, i, none⟩ u) (some g) :=
 ⟨rfl, rfl, rfl, by simp [World.setCell], fun k _ hne => Below.heap_setCell w _ u k (fun e => hne (by rw [e]))⟩
def valB (l : List UInt8) : Nat := l.foldl (fun a b => a * 256 + b.toNat) 0
def bigB (x size : Nat) : List UInt8 := (List.range size).map fun k => UInt8.ofNat (x / 256 ^ (size - 1 - k))
theorem bigB_length (x size : Nat) : (bigB x size).length = size := by simp [bigB]
theorem bigB_zero (x : Nat) : bigB x 0 = [] := rfl
theorem bigB_succ (x size : Nat) : bigB x (size + 1) = bigB (x / 256) size ++ [UInt8.ofNat x] := by
 unfold bigB
 rw [List.range_succ, List.map_append]
 congr 1
 ·refine List.map_congr_left fun k hk => ?_
  have hk := List.mem_range.1 hk
  have e : size + 1 - 1 - k = (size - 1 - k) + 1 := by omega
  rw [e, Nat.pow_succ, Nat.mul_comm, Nat.div_div_eq_div_mul]
 ·simp
theorem ofNat_toNat (x : Nat) : (UInt8.ofNat x).toNat = x % 256 := by simp
def lenB : Nat → Nat → Nat
 | 0, _ => 0
 | f + 1, x => if x = 0 then 0 else lenB f (x / 256) + 1
theorem lenB_spec (f x : Nat) (h : x < 256 ^ f) : x < 256 ^ lenB f x ∧ (0 < lenB f x → 256 ^ (lenB f x - 1) ≤ x) ∧ lenB f x ≤ f := by
 induction f generalizing x with
 | zero => simp [lenB] at h ⊢; omega
 | succ f ih =>
  unfold lenB
  by_cases h0 : x = 0
  ·simp [h0]
  ·rw [if_neg h0]
   have h1 : x / 256 < 256 ^ f := by rw [Nat.pow_succ] at h; omega
   obtain ⟨a, b, c⟩ := ih (x / 256) h1
   refine ⟨?_, fun _ => ?_, by omega⟩
   ·rw [Nat.pow_succ]; omega
   ·show 256 ^ (lenB f (x / 256)) ≤ x
    rcases Nat.eq_zero_or_pos (lenB f (x / 256)) with hz | hz
    ·rw [hz]; simp; omega
    ·have := b hz
     have e : lenB f (x / 256) = (lenB f (x / 256) - 1) + 1 := by omega
     rw [e, Nat.pow_succ]; omega
def Below64 (n : Nat) : Prop := n < 18446744073709551616
instance (n : Nat) : Decidable (Below64 n) := inferInstanceAs (Decidable (n < 18446744073709551616))
def bigRow (x n k : Nat) : Array Value := ((List.range n).map fun j => if n ≤ j + k then byteV (UInt8.ofNat (x / 256 ^ (n - 1 - j))) else Value.int .u8 0).toArray
theorem bigRow_size (x n k : Nat) : (bigRow x n k).size = n := by simp [bigRow]
theorem bigRow_zero (x n : Nat) : bigRow x n 0 = madeCells #[Value.int .u8 0] n := by
 apply Array.ext
 ·simp [bigRow, size_madeCells]
 ·intro i h1 h2
  have hi : i < n := by simpa [bigRow] using h1
  have hm : i % 1 = 0 := Nat.mod_one i
  simp [bigRow, madeCells, hm]
  intro h
  omega
theorem bigRow_full (x n : Nat) : bigRow x n n = ((bigB x n).map byteV).toArray := by
 unfold bigRow bigB
 rw [List.map_map]
 congr 1
 refine List.map_congr_left fun j _ => ?_
 rw [if_pos (by omega)]; rfl
theorem bigRow_step (x n k j : Nat) (h : j + k + 1 = n) : (bigRow x n k).setIfInBounds j (byteV (UInt8.ofNat (x / 256 ^ k))) = bigRow x n (k + 1) := by
 apply Array.ext
 ·simp [bigRow]
 ·intro i h1 h2
  have hi : i < n := by simpa [bigRow] using h2
  rw [Array.getElem_setIfInBounds (by simpa [bigRow] using hi)]
  split
  ·next e =>
   subst e
   simp [bigRow]
   rw [if_pos (by omega)]
   congr 4
   omega
  ·next e =>
   simp [bigRow]
   by_cases hc : n ≤ i + k
   ·rw [if_pos hc, if_pos (by omega)]
   ·rw [if_neg hc, if_neg (by omega)]
theorem shr_8k (x k : Nat) : Value.int .u8 ((x : Int) / 2 ^ (8 * k) % 256) = byteV (UInt8.ofNat (x / 256 ^ k)) := by
 unfold byteV
 rw [ofNat_toNat]
 have e : (2 : Int) ^ (8 * k) = ((256 ^ k : Nat) : Int) := by
  have h : (2 : Nat) ^ (8 * k) = 256 ^ k := by rw [Nat.pow_mul]
  rw [← h]; simp
 rw [e]
 congr 1
def BigPost (x n : Nat) (w : World) (r : Ending) (w' : World) : Prop :=
 r = .returned (.slice (some ⟨w.heap.size, 0, none⟩) n n) ∧ Blk w' w.heap.size 5 ((bigB x n).map byteV).toArray ∧ Below w.heap.size w w' ∧ Sz w' (w.heap.size + 1)
theorem fits_yes {n : Int} (h1 : 1 ≤ n) (h2 : n ≤ 8) : fitsB n = true := by simp [fitsB, h1, h2]
theorem fits_no {n : Int} (h : ¬ (1 ≤ n ∧ n ≤ 8)) : fitsB n = false := by simp [fitsB]; omega
theorem big_no (x : Int) (n : Int) (w : World) (h : ¬ (1 ≤ n ∧ n ≤ 8)) :
  Calls Tryz.prog 163 #[.int .u64 x, .int .i64 n] w fun r w' => r = .returned (.slice none 0 0) ∧ w = w' := by
 have hf := fits_no h
 go_enter Tryz.func163, Tryz.ntmps163
 go_wp2_with (go_at_call 164; refine (fits_any _ _).mono ?_; rintro r w' ⟨rfl, rfl⟩)
 go_ret
 exact ⟨rfl, rfl⟩
theorem big_yes (x n : Nat) (w : World) (h1 : 1 ≤ n) (h2 : n ≤ 8) :
  Calls Tryz.prog 163 #[.int .u64 (x : Int), .int .i64 (n : Int)] w (BigPost x n w) := by
 have hf := fits_yes (n := (n : Int)) (by omega) (by omega)
 have hmk := run_make_row' (P := Tryz.prog) 30 5 (.int .u8 0) 1 Tryz.underlying30 Tryz.cells22o rfl .i64 .i64 n (by omega) (by omega)
 go_enter Tryz.func163, Tryz.ntmps163
 go_wp2_with (go_at_call 164; refine (fits_any _ _).mono ?_; rintro r w' ⟨rfl, rfl⟩)
 clear hmk hf
 go_loopw [14] (fun i wr => ∃ k : Nat, k ≤ n ∧ i = .int .i64 k ∧ Hid (Blk wr w.heap.size 5 (bigRow x n k)) ∧ Below w.heap.size w wr ∧ Hid (wr.heap.size = w.heap.size + 1)) (fun i _ => n - (intOf i).toNat)
 case atStart =>
  refine ⟨0, Nat.zero_le _, rfl, ?_, bAl, ?_⟩
  ·show Blk _ _ _ _
   rw [bigRow_zero]; exact Blk.new _ _ _
  ·show _ = _
   simp
 case round =>
  obtain ⟨k, hk, rfl, HB, hbel, HS⟩ := hrel
  by_cases hlt : k < n
  ·obtain ⟨j, hj⟩ : ∃ j, j + k + 1 = n := ⟨n - k - 1, by omega⟩
   have hjn : (n : Int) - 1 - (k : Int) = (j : Int) := by omega
   have hjlt : j < n := by omega
   have hfz : wr.frozen? ⟨w.heap.size, j, none⟩ = false := HB.out.frozen j
   obtain ⟨u, hcell⟩ : ∃ u, wr.cell? ⟨w.heap.size, j, none⟩ = some u := ⟨_, by rw [HB.out.cell]; exact Array.getElem?_eq_getElem (by rw [bigRow_size]; exact hjlt)⟩
   have HJ := hHd hj
   clear hj
   go_wp2
   go_roundw
   case rel =>
    refine ⟨k + 1, by omega, by go_num, ?_, hbel.setCell (Nat.le_refl _) _, ?_⟩
    ·show Blk _ _ _ _
     rw [shr_8k, ← bigRow_step x n k j HJ.out]
     exact HB.out.set_ j _
    ·show _ = _
     simpa [World.setCell] using HS.out
   case measure => simp [intOf]; omega
  ·go_wp2
   go_ret
   obtain rfl : k = n := by omega
   exact ⟨rfl, by rw [← bigRow_full]; exact HB.out, hbel, HS.out⟩
theorem big_rd {x n : Nat} {w : World} {r : Ending} {w' : World} (h : BigPost x n w r w') (hn : n ≤ 8) : ∃ v, r = .returned v ∧ v = .slice (some ⟨w.heap.size, 0, none⟩) n n ∧ Rd w' w.heap.size v (bigB x n) := by
 obtain ⟨rfl, hb, _, _⟩ := h
 have hr := Rd.of_blk hb (by rw [bigB_length]; omega)
 rw [bigB_length] at hr
 exact ⟨_, rfl, rfl, hr⟩
def BigAny (x n : Nat) (w : World) (r : Ending) (w' : World) : Prop :=
 ∃ v, r = .returned v ∧ Rd w' w.heap.size v (bigB x n) ∧ Below w.heap.size w w' ∧ w'.heap.size ≤ w.heap.size + 1
theorem big_any (x n : Nat) (w : World) (h : n ≤ 8) :
  Calls Tryz.prog 163 #[.int .u64 (x : Int), .int .i64 (n : Int)] w (BigAny x n w) := by
 rcases Nat.eq_zero_or_pos n with rfl | h1
 ·exact (big_no x 0 w (by omega)).mono fun r w' ⟨hr, hw⟩ => ⟨_, hr, Rd.nil _ _, by rw [hw]; exact Below.refl _ _, by rw [hw]; omega⟩
 ·refine (big_yes x n w h1 h).mono fun r w' hp => ?_
  obtain ⟨v, hr, hv, hrd⟩ := big_rd hp h
  exact ⟨v, hr, hrd, hp.2.2.1, by have h := hp.2.2.2; unfold Sz at h; omega⟩
def least (x : Nat) : Nat := lenB 8 x
theorem least_spec {x : Nat} (h : x < 18446744073709551616) : x < 256 ^ least x ∧ (0 < least x → 256 ^ (least x - 1) ≤ x) ∧ least x ≤ 8 := lenB_spec 8 x (by omega)
theorem pow_mono {a b : Nat} (h : a ≤ b) : 256 ^ a ≤ 256 ^ b := Nat.pow_le_pow_right (by decide) h
theorem least_test {x k : Nat} (h : x < 18446744073709551616) (hk : k ≤ least x) : ((x : Int) / 2 ^ (8 * k) != 0) = decide (k < least x) := by
 have e : (2 : Int) ^ (8 * k) = ((256 ^ k : Nat) : Int) := by
  have h : (2 : Nat) ^ (8 * k) = 256 ^ k := by rw [Nat.pow_mul]
  rw [← h]; simp
 obtain ⟨h1, h2, _⟩ := least_spec h
 rw [e]
 rcases Nat.lt_or_ge k (least x) with hlt | hge
 ·have hp : 256 ^ k ≤ x := Nat.le_trans (pow_mono (by omega)) (h2 (by omega))
  have hd : 0 < x / 256 ^ k := Nat.div_pos hp (Nat.pow_pos (by decide))
  have : ((x : Int) / ((256 ^ k : Nat) : Int)) = ((x / 256 ^ k : Nat) : Int) := by simp
  rw [this]
  generalize x / 256 ^ k = q at hd
  simp [hlt]
  omega
 ·obtain rfl : k = least x := by omega
  have hd : x / 256 ^ least x = 0 := Nat.div_eq_of_lt h1
  have : ((x : Int) / ((256 ^ least x : Nat) : Int)) = ((x / 256 ^ least x : Nat) : Int) := by simp
  rw [this, hd]
  simp
theorem least_any (x : Nat) (w : World) (h : x < 18446744073709551616) :
  Calls Tryz.prog 162 #[.int .u64 (x : Int)] w (BigAny x (least x) w) := by
 have h8 := (least_spec h).2.2
 have HX := hHd h
 clear h
 go_enter Tryz.func162, Tryz.ntmps162
 go_wp2
 go_loop [3] (fun i => ∃ k : Nat, k ≤ least x ∧ i = .int .i64 k) (fun i => least x - (intOf i).toNat)
 case atStart => exact ⟨0, Nat.zero_le _, rfl⟩
 case round =>
  obtain ⟨k, hk, rfl⟩ := hrel
  have ht := least_test HX.out hk
  by_cases hlt : k < least x
  ·rw [decide_eq_true hlt] at ht
   go_wp2
   go_round
   case rel => exact ⟨k + 1, by omega, by go_num⟩
   case measure => simp [intOf]; omega
  ·rw [decide_eq_false hlt] at ht
   have hk' : Hid (k = least x) := hHd (by omega)
   clear hlt
   go_wp2_with (go_at_call 163; refine (big_any x k _ (by omega)).mono ?_; rintro r w' ⟨v, rfl, hr, hb, hs⟩)
   go_ret
   exact ⟨_, rfl, by rw [← hk'.out]; exact hr, hb, hs⟩
def nm (l : List UInt8) (e n : Int) : Nat × List UInt8 × Int :=
 if e = 0 ∧ ¬ (1 ≤ n ∧ n ≤ 8) then (0, l, 1) else (valB (nx l e n).1, (nx l e n).2.1, (nx l e n).2.2)
theorem grown_below {a b c : World} {g : Nat} (h : a.grownBy b (some g)) (k : Below b.heap.size b c) : a.grownBy c (some g) :=
 ⟨k.os.trans h.os, k.tape.trans h.tape, k.output.trans h.output, Nat.le_trans h.size k.size, fun i hi hne => (k.block i (Nat.lt_of_lt_of_le hi h.size)).trans (h.block i hi hne)⟩
theorem str_of {w : World} {d : Nat} {v : Value} {l : List UInt8} (h : Rd w d v l) : (convert 30 9 v).run Tryz.prog w = .ok (.string ⟨l.toArray⟩) w := by
 obtain ⟨A, c, rfl, h1, h2, h3⟩ := h
 rcases A with _ | a
 ·have hl : l = [] := by
   rcases Nat.eq_zero_or_pos l.length with h0 | h0
   ·exact List.eq_nil_of_length_eq_zero h0
   ·obtain ⟨_, he, _⟩ := h3 h0
    cases he
  subst hl
  rw [run_convert_bytes_nil w 30 5 Tryz.underlying30 Tryz.underlying5 _ _ 9 Tryz.underlying9]
  rfl
 ·refine run_convert_bytes_back w 30 9 5 a c l Tryz.underlying30 Tryz.underlying5 Tryz.underlying9 (fun j hj => ?_)
  obtain ⟨off, he, hc⟩ := h3 (by omega)
  injection he with he
  subst he
  have := hc j _ (List.getElem?_eq_getElem hj)
  have e : (⟨d, off, none⟩ : Addr).add j = ⟨d, off + j, none⟩ := by unfold Addr.add; split <;> simp_all
  rw [e]
  exact this
def Own (w : World) (base : Nat) (v : Value) (l : List UInt8) : Prop := w.ownsRow base 5 1 v l.length (l.map byteV)
section
variable {w w' : World} {base : Nat} {v : Value} {l : List UInt8}
theorem Own.nil (w : World) (base : Nat) : Own w base (.slice none 0 0) [] := World.ownsRow_nil w base 5 1
theorem Own.below (h : Own w base v l) (hb : Below w.heap.size w w') : Own w' base v l :=
 World.ownsRow.kept h ⟨hb.os, hb.tape, hb.output, hb.size, fun k hk _ => hb.block k hk⟩ (row := none) (by cases hv : v.ownBlock <;> simp)
theorem Own.rd (h : Own w base v l) (hl : l.length ≤ 140737488355328) : ∃ d, base ≤ d ∧ (v.ownBlock = none ∧ v = .slice none 0 0 ∨ v.ownBlock = some d ∧ d < w.heap.size) ∧ Rd w d v l := by
 have hh := h
 obtain ⟨_, h2⟩ := h
 rcases h2 with ⟨rfl, hn⟩ | ⟨g, cap, cur, rfl, hb, hg, hnc, hcm, hs, ht⟩
 ·have : l = [] := List.eq_nil_of_length_eq_zero hn
  subst this
  exact ⟨base, Nat.le_refl _, .inl ⟨rfl, rfl⟩, Rd.nil _ _⟩
 ·have hlt : g < w.heap.size := by
   rcases Nat.lt_or_ge g w.heap.size with hlt | hge
   ·exact hlt
   ·rw [Array.getElem?_eq_none hge] at hg; cases hg
  refine ⟨g, hb, .inr ⟨rfl, hlt⟩, _, cap, rfl, hnc, hl, fun _ => ⟨0, rfl, fun j b hj => ?_⟩⟩
  have hjl : j < l.length := (List.getElem?_eq_some_iff.1 hj).1
  rw [World.ownsRow.cellAt hh (0 + j) (by omega)]
  simp [hj]
theorem Own.rd' (h : Own w base v l) (hl : l.length ≤ 140737488355328) : ∃ d, d ≤ w.heap.size ∧ Rd w d v l := by
 obtain ⟨d, _, h2, hr⟩ := h.rd hl
 rcases h2 with ⟨_, rfl⟩ | ⟨_, h2⟩
 ·obtain ⟨A, c, e, _⟩ := id hr
  injection e with _ e2
  have : l = [] := List.eq_nil_of_length_eq_zero e2.symm
  exact ⟨0, Nat.zero_le _, hr.block this 0⟩
 ·exact ⟨d, Nat.le_of_lt h2, hr⟩
theorem Own.made (w : World) (n : Nat) (b : UInt8) (hb : base ≤ w.heap.size) (hn : n ≤ 140737488355328) (cs : Array Value) (hcs : cs = ((List.replicate n b).map byteV).toArray) :
  Own (w.alloc (.cells cs 5)) base (.slice (some ⟨w.heap.size, 0, none⟩) n n) (List.replicate n b) := by
 subst hcs
 refine ⟨by simp, .inr ⟨w.heap.size, n, _, by simp, hb, heap_alloc_new w _, by simp, by unfold maxLen; omega, by simp, ?_⟩⟩
 simp only [Nat.mul_one]
 exact List.take_of_length_le (by simp)
end
theorem run_append_rd (w : World) (base : Nat) (v : Value) (l0 : List UInt8) (hown : Own w base v l0) (d : Nat) (u : Value) (l : List UInt8) (h : Rd w d u l)
  (hb : l0.length + l.length ≤ 140737488355328) (hbase : base ≤ w.heap.size) :
  ∃ v' w', (Builtin.append_ #[30, 30] 30 #[v, u]).run Tryz.prog w = .ok v' w' ∧ Own w' base v' (l0 ++ l) ∧ w.grownBy w' v.ownBlock ∧ (v'.ownBlock = v.ownBlock ∨ v'.ownBlock = some w.heap.size) := by
 obtain ⟨i, hi, hz0, hz1, hz2⟩ := info_parts Tryz.cells22o
 obtain ⟨A, c, rfl, h1, h2, h3⟩ := h
 have one : ∀ x ∈ l.map byteV, x.oneCell' = true := by
  intro x hx
  obtain ⟨b, _, rfl⟩ := List.mem_map.1 hx
  rfl
 rcases A with _ | ad
 ·have hl : l = [] := by
   rcases Nat.eq_zero_or_pos l.length with h0 | h0
   ·exact List.eq_nil_of_length_eq_zero h0
   ·obtain ⟨_, he, _⟩ := h3 h0
    cases he
  subst hl
  refine ⟨v, w, ?_, by simpa using hown, World.grownBy.refl w _, .inl rfl⟩
  have hown' := hown
  rcases hown.2 with ⟨rfl, _⟩ | ⟨g, cap, cur, rfl, _, _, hnc, _⟩
  ·simp [Builtin.append_, run_underlying Tryz.underlying30, sizeOf, typeInfo, hi, Builtin.lenOf, Builtin.firstCells]
  ·simp [Builtin.append_, run_underlying Tryz.underlying30, sizeOf, typeInfo, hi, Builtin.lenOf, Builtin.firstCells, hnc, storeCells]
 ·have hcells : ∀ j x, (l.map byteV)[j]? = some x → w.cell? (ad.add j) = some x := by
   intro j x hj
   obtain ⟨b, hb', rfl⟩ : ∃ b, l[j]? = some b ∧ byteV b = x := by simpa using hj
   have hjl : j < l.length := (List.getElem?_eq_some_iff.1 hb').1
   obtain ⟨off, he, hc⟩ := h3 (by omega)
   injection he with he
   subst he
   have e : (⟨d, off, none⟩ : Addr).add j = ⟨d, off + j, none⟩ := by unfold Addr.add; split <;> simp_all
   rw [e]
   exact hc j b hb'
  obtain ⟨v', w', hrun, k1, k2, _, k3⟩ := run_append_own_at (P := Tryz.prog) w base 30 30 5 i (.int .u8 0) 1 1 Tryz.underlying30 hi hz0 hz1 hz2 rfl (by decide) v l0.length (l0.map byteV) hown
   ad l.length c (l.map byteV) (by simp) hcells one (by unfold maxLen; omega) (by omega) hbase
  refine ⟨v', w', hrun, ?_, k2, k3⟩
  unfold Own
  rw [List.length_append, List.map_append]
  exact k1
def AppPost (w : World) (base : Nat) (v : Value) (l : List UInt8) (v' : Value) (w' : World) : Prop :=
 Own w' base v' l ∧ w.grownBy w' v.ownBlock ∧ (v'.ownBlock = v.ownBlock ∨ v'.ownBlock = some w.heap.size)
theorem AppPost.below {w w' : World} {base : Nat} {v v' : Value} {l l0 : List UInt8} (h : AppPost w base v l v' w') (hown : Own w base v l0) (hb : base ≤ w.heap.size) : Below base w w' :=
 (Below.refl _ _).grown h.2.1 hb fun k e => (World.ownsRow.lt hown k e).1
theorem wp_append_rd {w : World} {o : Oper} {a : Act} {K : Act → World → Prop} {Q : Exit → Act → World → Prop} (s x : Operand)
  (ho : o.op = .call { callee := .builtin .append, args := #[s, x], argTypes := #[30, 30] }) (hty : o.type = 30)
  (base : Nat) (v : Value) (l0 : List UInt8) (hs : a.eval s = v) (hown : Own w base v l0) (d : Nat) (u : Value) (l : List UInt8) (hx : a.eval x = u) (h : Rd w d u l)
  (hb : l0.length + l.length ≤ 140737488355328) (hbase : base ≤ w.heap.size)
  (hK : ∀ v' w', AppPost w base v (l0 ++ l) v' w' → K (a.put o.dst v') w') : o.wp Tryz.prog a w K Q := by
 obtain ⟨v', w', hrun, h2, h3, h4⟩ := run_append_rd w base v l0 hown d u l h hb hbase
 unfold Oper.wp execOp
 simp only [ho, hty, resolve, invoke, builtin, Sem.run_bind, Sem.run_pure, Result.andThen_ok, List.map_toArray, List.map_cons, List.map_nil, hs, hx, hrun]
 exact hK v' w' ⟨h2, h3, h4⟩
theorem wpList_append_rd {w : World} {ops : Array Oper} {rest : List Oper} {o : Oper} {a : Act} {Q : Exit → Act → World → Prop} (hgd : o.guard = none) (s x : Operand)
  (ho : o.op = .call { callee := .builtin .append, args := #[s, x], argTypes := #[30, 30] }) (hty : o.type = 30)
  (base : Nat) (v : Value) (l0 : List UInt8) (hs : a.eval s = v) (hown : Own w base v l0) (d : Nat) (u : Value) (l : List UInt8) (hx : a.eval x = u) (h : Rd w d u l)
  (hb : l0.length + l.length ≤ 140737488355328) (hbase : base ≤ w.heap.size)
  (hK : ∀ v' w', AppPost w base v (l0 ++ l) v' w' → wpList Tryz.prog ops Q rest (a.put o.dst v') w') : wpList Tryz.prog ops Q (o :: rest) a w :=
 wpList_plain hgd fun _ hK' => wp_append_rd s x ho hty base v l0 hs hown d u l hx h hb hbase fun v' w' hp => hK' _ _ (hK v' w' hp)
def RowK (k : Nat) (w : World) (d : Nat) (v : Value) (n : Nat) (xs : List Value) : Prop :=
 xs.length = n * k ∧ ∃ A c, v = .slice A n c ∧ n ≤ c ∧ (0 < n → d < w.heap.size ∧ ∃ off, A = some ⟨d, off, none⟩ ∧ ∀ j u, xs[j]? = some u → w.cell? ⟨d, off + j, none⟩ = some u)
section
variable {k : Nat} {w w' : World} {d : Nat} {v : Value} {n : Nat} {xs : List Value}
theorem RowK.shape (h : RowK k w d v n xs) : ∃ A c, v = .slice A n c := by obtain ⟨_, A, c, h, _⟩ := h; exact ⟨A, c, h⟩
theorem RowK.nil (k : Nat) (w : World) (d : Nat) : RowK k w d (.slice none 0 0) 0 [] := ⟨by simp, none, 0, rfl, Nat.le_refl _, fun h => absurd h (by simp)⟩
theorem RowK.below (h : RowK k w d v n xs) (hb : Below w.heap.size w w') : RowK k w' d v n xs := by
 obtain ⟨h0, A, c, rfl, h1, h2⟩ := h
 refine ⟨h0, A, c, rfl, h1, fun hp => ?_⟩
 obtain ⟨hlt, off, rfl, hc⟩ := h2 hp
 exact ⟨Nat.lt_of_lt_of_le hlt hb.size, off, rfl, fun j x hx => (hb.cell (p := ⟨d, off + j, none⟩) hlt).trans (hc j x hx)⟩
theorem RowK.grown {row : Option Nat} (h : RowK k w d v n xs) (hb : w.grownBy w' row) (hd : 0 < n → some d ≠ row) : RowK k w' d v n xs := by
 obtain ⟨h0, A, c, rfl, h1, h2⟩ := h
 refine ⟨h0, A, c, rfl, h1, fun hp => ?_⟩
 obtain ⟨hlt, off, rfl, hc⟩ := h2 hp
 exact ⟨Nat.lt_of_lt_of_le hlt hb.size, off, rfl, fun j x hx => (World.cell?_of_block (a := ⟨d, off + j, none⟩) (hb.block d hlt (hd hp))).trans (hc j x hx)⟩
theorem RowK.at {A : Option Addr} {m c : Nat} (h : RowK k w d (.slice A m c) n xs) (h0 : 0 < n) : m = n ∧ m ≤ c ∧ ∃ off, A = some ⟨d, off, none⟩ ∧ d < w.heap.size ∧ ∀ j u, xs[j]? = some u → w.cell? ⟨d, off + j, none⟩ = some u := by
 obtain ⟨_, A', c', he, h1, h2⟩ := h
 injection he with e1 e2 e3
 subst e1 e2 e3
 obtain ⟨hlt, off, e, hc⟩ := h2 h0
 exact ⟨rfl, h1, off, e, hlt, hc⟩
end
def OwnK (e : TypeId) (k : Nat) (w : World) (base : Nat) (v : Value) (n : Nat) (xs : List Value) : Prop := w.ownsRow base e k v n xs
section
variable {w w' : World} {e : TypeId} {k base : Nat} {v : Value} {n : Nat} {xs : List Value}
theorem OwnK.nil (e : TypeId) (k : Nat) (w : World) (base : Nat) : OwnK e k w base (.slice none 0 0) 0 [] := World.ownsRow_nil w base e k
theorem OwnK.below (h : OwnK e k w base v n xs) (hb : Below w.heap.size w w') : OwnK e k w' base v n xs :=
 World.ownsRow.kept h ⟨hb.os, hb.tape, hb.output, hb.size, fun k hk _ => hb.block k hk⟩ (row := none) (by cases hv : v.ownBlock <;> simp)
theorem OwnK.lt (h : OwnK e k w base v n xs) : ∀ b, v.ownBlock = some b → base ≤ b ∧ b < w.heap.size := fun b hb => World.ownsRow.lt h b hb
theorem OwnK.grown {row : Option Nat} (h : OwnK e k w base v n xs) (hg : w.grownBy w' row) (hne : v.ownBlock = none ∨ v.ownBlock ≠ row) : OwnK e k w' base v n xs := World.ownsRow.kept h hg hne
theorem OwnK.mono {base' : Nat} (h : OwnK e k w base v n xs) (hb : base' ≤ base) : OwnK e k w base' v n xs := World.ownsRow.mono h hb
theorem OwnK.row (h : OwnK e k w base v n xs) : ∃ d, RowK k w d v n xs ∧ (0 < n → base ≤ d) := by
 have hh := h
 have hlt := h.lt
 rcases h.2 with ⟨rfl, h0⟩ | ⟨g, cap, cur, rfl, hb, hg, hnc, hcm, hcs, ht⟩
 ·have hx : xs.length = n * k := h.1
  exact ⟨0, ⟨hx, none, 0, by rw [h0], by omega, fun h => absurd h (by omega)⟩, fun h => absurd h (by omega)⟩
 ·refine ⟨g, ⟨h.1, _, cap, rfl, hnc, fun h0 => ⟨(hlt g rfl).2, 0, rfl, fun j u hj => ?_⟩⟩, fun _ => (hlt g rfl).1⟩
  have hjl : j < xs.length := (List.getElem?_eq_some_iff.1 hj).1
  have hx : xs.length = n * k := h.1
  rw [World.ownsRow.cellAt hh (0 + j) (by omega), Nat.zero_add, hj]
theorem OwnK.shape (h : OwnK e k w base v n xs) : ∃ A c, v = .slice A n c := by
 rcases h.2 with ⟨rfl, h0⟩ | ⟨g, cap, cur, rfl, _⟩
 ·exact ⟨none, 0, by rw [h0]⟩
 ·exact ⟨_, _, rfl⟩
end
def AppK (e : TypeId) (k : Nat) (w : World) (base : Nat) (v : Value) (n : Nat) (xs : List Value) (v' : Value) (w' : World) : Prop :=
 OwnK e k w' base v' n xs ∧ w.grownBy w' v.ownBlock ∧ (v'.ownBlock = v.ownBlock ∨ v'.ownBlock = some w.heap.size) ∧ ∃ g c, v' = .slice (some ⟨g, 0, none⟩) n c
theorem AppK.below {e : TypeId} {k : Nat} {w w' : World} {base : Nat} {v v' : Value} {n m : Nat} {xs ys : List Value} (h : AppK e k w base v n xs v' w') (hown : OwnK e k w base v m ys) (hb : base ≤ w.heap.size) : Below base w w' :=
 (Below.refl _ _).grown h.2.1 hb fun b e => (hown.lt b e).1
theorem run_append_k {P : Program} {ts e : TypeId} {z : Value} {k bytes : Nat} (hu : P.underlying ts = some (.slice e))
  (hinfo : (P.info? e).map (fun i => (i.zero, i.size, i.bytes)) = some (some z, k, bytes)) (hz : z.cells.size = k) (hk : 0 < k) (w : World) (base : Nat) (v : Value) (n : Nat) (xs : List Value) (hown : OwnK e k w base v n xs)
  (g : Nat) (ys : List Value) (hblk : Blk w g e ys.toArray) (hys : ys.length = k) (hone : ∀ u ∈ ys, u.oneCell' = true)
  (hb : (n + 1) * bytes ≤ 140737488355328) (hlen : n + 1 ≤ 140737488355328) (hbase : base ≤ w.heap.size) :
  ∃ v' w', (Builtin.append_ #[ts, ts] ts #[v, .slice (some ⟨g, 0, none⟩) 1 1]).run P w = .ok v' w' ∧ AppK e k w base v (n + 1) (xs ++ ys) v' w' := by
 obtain ⟨i, hi, hz0, hz1, hz2⟩ := info_parts hinfo
 obtain ⟨v', w', hrun, k1, k2, _, k3⟩ := run_append_own_at (P := P) (w := w) base ts ts e i z k bytes hu hi hz0 hz1 hz2 hz hk v n xs hown
  ⟨g, 0, none⟩ 1 1 ys (by omega) (fun j u hj => by
   have e1 : (⟨g, 0, none⟩ : Addr).add j = ⟨g, j, none⟩ := by unfold Addr.add; split <;> simp_all
   rw [e1, hblk.cell]
   simpa using hj) hone (by unfold maxLen; omega) hb hbase
 refine ⟨v', w', hrun, k1, k2, k3, ?_⟩
 rcases k1.2 with ⟨_, h0⟩ | ⟨g', cap, _, rfl, _⟩
 ·omega
 ·exact ⟨g', cap, rfl⟩
theorem wp_append_k {P : Program} {ts e : TypeId} {z : Value} {k bytes : Nat} (hu : P.underlying ts = some (.slice e))
  (hinfo : (P.info? e).map (fun i => (i.zero, i.size, i.bytes)) = some (some z, k, bytes)) (hz : z.cells.size = k) (hk : 0 < k) {w : World} {o : Oper} {a : Act} {K : Act → World → Prop} {Q : Exit → Act → World → Prop} (s x : Operand)
  (ho : o.op = .call { callee := .builtin .append, args := #[s, x], argTypes := #[ts, ts] }) (hty : o.type = ts)
  (base : Nat) (v : Value) (n : Nat) (xs : List Value) (hs : a.eval s = v) (hown : OwnK e k w base v n xs) (g : Nat) (hx : a.eval x = .slice (some ⟨g, 0, none⟩) 1 1)
  (ys : List Value) (hblk : Blk w g e ys.toArray) (hys : ys.length = k) (hone : ∀ u ∈ ys, u.oneCell' = true)
  (hb : (n + 1) * bytes ≤ 140737488355328) (hlen : n + 1 ≤ 140737488355328) (hbase : base ≤ w.heap.size)
  (hK : ∀ v' w', AppK e k w base v (n + 1) (xs ++ ys) v' w' → K (a.put o.dst v') w') : o.wp P a w K Q := by
 obtain ⟨v', w', hrun, h2⟩ := run_append_k hu hinfo hz hk w base v n xs hown g ys hblk hys hone hb hlen hbase
 unfold Oper.wp execOp
 simp only [ho, hty, resolve, invoke, builtin, Sem.run_bind, Sem.run_pure, Result.andThen_ok, List.map_toArray, List.map_cons, List.map_nil, hs, hx, hrun]
 exact hK v' w' h2
theorem wpList_append_k {P : Program} {ts e : TypeId} {z : Value} {k bytes : Nat} (hu : P.underlying ts = some (.slice e))
  (hinfo : (P.info? e).map (fun i => (i.zero, i.size, i.bytes)) = some (some z, k, bytes)) (hz : z.cells.size = k) (hk : 0 < k) {w : World} {ops : Array Oper} {rest : List Oper} {o : Oper} {a : Act} {Q : Exit → Act → World → Prop} (hgd : o.guard = none) (s x : Operand)
  (ho : o.op = .call { callee := .builtin .append, args := #[s, x], argTypes := #[ts, ts] }) (hty : o.type = ts)
  (base : Nat) (v : Value) (n : Nat) (xs : List Value) (hs : a.eval s = v) (hown : OwnK e k w base v n xs) (g : Nat) (hx : a.eval x = .slice (some ⟨g, 0, none⟩) 1 1)
  (ys : List Value) (hblk : Blk w g e ys.toArray) (hys : ys.length = k) (hone : ∀ u ∈ ys, u.oneCell' = true)
  (hb : (n + 1) * bytes ≤ 140737488355328) (hlen : n + 1 ≤ 140737488355328) (hbase : base ≤ w.heap.size)
  (hK : ∀ v' w', AppK e k w base v (n + 1) (xs ++ ys) v' w' → wpList P ops Q rest (a.put o.dst v') w') : wpList P ops Q (o :: rest) a w :=
 wpList_plain hgd fun _ hK' => wp_append_k hu hinfo hz hk s x ho hty base v n xs hs hown g hx ys hblk hys hone hb hlen hbase fun v' w' hp => hK' _ _ (hK v' w' hp)
end Go.Proofs.YtodlhgflfcadmaaGreat

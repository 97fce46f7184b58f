/- OctI OctRef SclNum RowMem Forest FrmRow SpcNum -/
import Derived.Test.YtleidkpdpabkpaaGreatDoorAM1
import Derived.OpenShut
import Derived.Lib.IndexBytes
import Derived.WalkLawsBesides
import Derived.Deep.Onto
set_option linter.unusedSimpArgs false
set_option linter.unusedVariables false
set_option maxRecDepth 100000
set_option maxHeartbeats 8000000
namespace Go.Proofs.YtleidkpdpabkpaaGreatDoor
open Go.RowKit
def IsRow (k : IntKind) (w : World) (a : Option Addr) (len cap : Nat) (zs : List Int) : Prop :=
 (a = none ∧ len = 0 ∧ cap = 0 ∧ zs = []) ∨
 ∃ x, a = some x ∧ len ≤ cap ∧ cap ≤ maxLen ∧ zs.length = cap ∧ (∀ i, i < zs.length → w.cell? (x.add i) = some (.int k (zs.getD i 0))) ∧ ∀ n ∈ zs, (Lit.int k n).wf = true
theorem IsRow.rd {w : World} {a : Option Addr} {len cap : Nat} {zs : List Int} (h : IsRow .u8 w a len cap zs) (hl : len ≤ 140737488355328) :
  ∃ d l, l.length = len ∧ d ≤ w.heap.size ∧ Rd w d (.slice a len cap) l := by
 rcases h with ⟨rfl, rfl, rfl, rfl⟩ | ⟨x, rfl, hlc, hcm, hz, hcell, hwf⟩
 ·exact ⟨0, [], rfl, Nat.zero_le _, Rd.nil _ _⟩
 ·have hlen : ((zs.take len).map fun n => UInt8.ofNat n.toNat).length = len := by simp; omega
  by_cases h0 : 0 < len
  ·have hx : x.spot = none := World.cell?_spot (by have := hcell 0 (by omega); simpa [Addr.add] using this)
   obtain ⟨b, off, sp⟩ := x
   have hsp : sp = none := hx
   subst hsp
   have hlt : b < w.heap.size := by
    have := World.block_lt_of_cell? w _ (hcell 0 (by omega))
    simpa [Addr.add] using this
   refine ⟨b, (zs.take len).map fun n => UInt8.ofNat n.toNat, hlen, by omega, _, cap, by rw [hlen], by omega, by omega, fun _ => ⟨off, rfl, fun j y hj => ?_⟩⟩
   have hjl : j < len := by have := (List.getElem?_eq_some_iff.1 hj).1; omega
   have hc := hcell j (by omega)
   have e : (⟨b, off, none⟩ : Addr).add j = ⟨b, off + j, none⟩ := by unfold Addr.add; split <;> simp_all
   rw [e] at hc
   rw [hc]
   have hjz : j < zs.length := by omega
   have hy : y = UInt8.ofNat (zs[j]).toNat := by
    rw [List.getElem?_map, List.getElem?_take_of_lt hjl, List.getElem?_eq_getElem hjz] at hj
    simpa using hj.symm
   obtain ⟨b0, b1⟩ := bounds_u8 (hwf zs[j] (List.getElem_mem hjz))
   rw [hy]
   unfold byteV
   rw [ofNat_toNat]
   have hg : zs.getD j 0 = zs[j] := by simp [List.getD, List.getElem?_eq_getElem hjz]
   rw [hg]
   congr 2
   omega
  ·have : len = 0 := by omega
   subst this
   exact ⟨0, [], rfl, Nat.zero_le _, _, cap, rfl, Nat.zero_le _, by simp, fun hp => absurd hp (by simp)⟩
def RdN (k : IntKind) (w : World) (d : Nat) (v : Value) (xs : List Nat) : Prop :=
 ∃ A c, v = .slice A xs.length c ∧ xs.length ≤ c ∧ (0 < xs.length → d < w.heap.size ∧ ∃ off, A = some ⟨d, off, none⟩ ∧ ∀ j x : Nat, xs[j]? = some x → w.cell? ⟨d, off + j, none⟩ = some (.int k (x : Int)))
theorem RdN.below {k : IntKind} {w w' : World} {d : Nat} {v : Value} {xs : List Nat} (h : RdN k w d v xs) (hb : Below w.heap.size w w') : RdN k w' d v xs := by
 obtain ⟨A, c, rfl, h1, h2⟩ := h
 refine ⟨A, c, rfl, h1, fun hp => ?_⟩
 obtain ⟨hlt, off, rfl, hc⟩ := h2 hp
 exact ⟨Nat.lt_of_lt_of_le hlt hb.size, off, rfl, fun j x hx => (hb.cell (p := ⟨d, off + j, none⟩) hlt).trans (hc j x hx)⟩
theorem RdN.grown {k : IntKind} {w w' : World} {d g : Nat} {v : Value} {xs : List Nat} (h : RdN k w d v xs) (hb : w.grownBy w' (some g)) (hd : 0 < xs.length → d ≠ g) : RdN k w' d v xs := by
 obtain ⟨A, c, rfl, h1, h2⟩ := h
 refine ⟨A, c, rfl, h1, fun hp => ?_⟩
 obtain ⟨hlt, off, rfl, hc⟩ := h2 hp
 refine ⟨Nat.lt_of_lt_of_le hlt hb.size, off, rfl, fun j x hx => hb.cell (hc j x hx) ?_⟩
 intro e
 injection e with e
 exact hd hp e
section
variable {w : World} {d n c : Nat} {A : Option Addr} {l : List UInt8}
theorem Rd.cap (h : Rd w d (.slice A n c) l) : l.length = n ∧ n ≤ c := by
 obtain ⟨A', c', e, h1, _⟩ := h
 injection e with _ e2 e3
 omega
end
def txt (l : List UInt8) : ByteArray := ⟨l.toArray⟩
theorem txt_size (l : List UInt8) : (txt l).size = l.length := by simp [txt, ByteArray.size]
theorem txt_data (l : List UInt8) : (txt l).data.toList = l := by simp [txt]
theorem txt_ext {a b : ByteArray} (h : a.data.toList = b.data.toList) : a = b := by
 cases a; cases b
 simp only [ByteArray.mk.injEq]
 exact Array.toList_inj.1 h
theorem txt_extract (l : List UInt8) (a b : Nat) : (txt l).extract a b = txt ((l.take b).drop a) := by
 apply txt_ext
 rw [Lib.extract_data, txt_data, txt_data, List.drop_take]
theorem txt_toList (l : List UInt8) : (txt l).toList = l := by rw [Lib.toList_data, txt_data]
theorem txt_some {l : List UInt8} (h : 0 < l.length) : (!(txt l).toList.isEmpty) = true := by
 rw [txt_toList]
 cases l with
 | nil => simp at h
 | cons => rfl
theorem txt_none : (!(txt []).toList.isEmpty) = false := by rw [txt_toList]; rfl
def smB (c : UInt8) : Bool := decide (97 ≤ c.toNat) && decide (c.toNat ≤ 122)
def nmB (c : UInt8) : Bool := smB c || (decide (48 ≤ c.toNat) && decide (c.toNat ≤ 57)) || c == 45
def identX (s : List UInt8) : Bool := match s with
 | [] => false
 | c :: r => smB c && r.all nmB && decide (r.length + 1 ≤ 12)
theorem sm_nm {c : UInt8} (h : smB c = true) : nmB c = true := by unfold nmB; rw [h]; rfl
theorem ident_len {s : List UInt8} (h : identX s = true) : 0 < s.length ∧ s.length ≤ 12 := by
 cases s with
 | nil => cases h
 | cons c r => simp [identX] at h; simp; omega
theorem ident_no {c : UInt8} (h : smB c = false) (s : List UInt8) : identX (c :: s) = false := by simp [identX, h]
def RowK (k : Nat) (w : World) (d : Nat) (v : Value) (n : Nat) (xs : List Value) : Prop :=
 xs.length = n * k ∧ ∃ A c, v = .slice A n c ∧ n ≤ c ∧ (0 < n → d < w.heap.size ∧ ∃ off, A = some ⟨d, off, none⟩ ∧ ∀ j u, xs[j]? = some u → w.cell? ⟨d, off + j, none⟩ = some u)
section
variable {k : Nat} {w w' : World} {d : Nat} {v : Value} {n : Nat} {xs : List Value}
theorem RowK.shape (h : RowK k w d v n xs) : ∃ A c, v = .slice A n c := by obtain ⟨_, A, c, h, _⟩ := h; exact ⟨A, c, h⟩
theorem RowK.nil (k : Nat) (w : World) (d : Nat) : RowK k w d (.slice none 0 0) 0 [] := ⟨by simp, none, 0, rfl, Nat.le_refl _, fun h => absurd h (by simp)⟩
theorem RowK.below (h : RowK k w d v n xs) (hb : Below w.heap.size w w') : RowK k w' d v n xs := by
 obtain ⟨h0, A, c, rfl, h1, h2⟩ := h
 refine ⟨h0, A, c, rfl, h1, fun hp => ?_⟩
 obtain ⟨hlt, off, rfl, hc⟩ := h2 hp
 exact ⟨Nat.lt_of_lt_of_le hlt hb.size, off, rfl, fun j x hx => (hb.cell (p := ⟨d, off + j, none⟩) hlt).trans (hc j x hx)⟩
theorem RowK.grown {row : Option Nat} (h : RowK k w d v n xs) (hb : w.grownBy w' row) (hd : 0 < n → some d ≠ row) : RowK k w' d v n xs := by
 obtain ⟨h0, A, c, rfl, h1, h2⟩ := h
 refine ⟨h0, A, c, rfl, h1, fun hp => ?_⟩
 obtain ⟨hlt, off, rfl, hc⟩ := h2 hp
 exact ⟨Nat.lt_of_lt_of_le hlt hb.size, off, rfl, fun j x hx => (World.cell?_of_block (a := ⟨d, off + j, none⟩) (hb.block d hlt (hd hp))).trans (hc j x hx)⟩
theorem RowK.at {A : Option Addr} {m c : Nat} (h : RowK k w d (.slice A m c) n xs) (h0 : 0 < n) : m = n ∧ m ≤ c ∧ ∃ off, A = some ⟨d, off, none⟩ ∧ d < w.heap.size ∧ ∀ j u, xs[j]? = some u → w.cell? ⟨d, off + j, none⟩ = some u := by
 obtain ⟨_, A', c', he, h1, h2⟩ := h
 injection he with e1 e2 e3
 subst e1 e2 e3
 obtain ⟨hlt, off, e, hc⟩ := h2 h0
 exact ⟨rfl, h1, off, e, hlt, hc⟩
end
def OwnK (e : TypeId) (k : Nat) (w : World) (base : Nat) (v : Value) (n : Nat) (xs : List Value) : Prop := w.ownsRow base e k v n xs
section
variable {w w' : World} {e : TypeId} {k base : Nat} {v : Value} {n : Nat} {xs : List Value}
theorem OwnK.nil (e : TypeId) (k : Nat) (w : World) (base : Nat) : OwnK e k w base (.slice none 0 0) 0 [] := World.ownsRow_nil w base e k
theorem OwnK.below (h : OwnK e k w base v n xs) (hb : Below w.heap.size w w') : OwnK e k w' base v n xs :=
 World.ownsRow.kept h ⟨hb.os, hb.tape, hb.output, hb.size, fun k hk _ => hb.block k hk⟩ (row := none) (by cases hv : v.ownBlock <;> simp)
theorem OwnK.lt (h : OwnK e k w base v n xs) : ∀ b, v.ownBlock = some b → base ≤ b ∧ b < w.heap.size := fun b hb => World.ownsRow.lt h b hb
theorem OwnK.grown {row : Option Nat} (h : OwnK e k w base v n xs) (hg : w.grownBy w' row) (hne : v.ownBlock = none ∨ v.ownBlock ≠ row) : OwnK e k w' base v n xs := World.ownsRow.kept h hg hne
theorem OwnK.mono {base' : Nat} (h : OwnK e k w base v n xs) (hb : base' ≤ base) : OwnK e k w base' v n xs := World.ownsRow.mono h hb
theorem OwnK.row (h : OwnK e k w base v n xs) : ∃ d, RowK k w d v n xs ∧ (0 < n → base ≤ d) := by
 have hh := h
 have hlt := h.lt
 rcases h.2 with ⟨rfl, h0⟩ | ⟨g, cap, cur, rfl, hb, hg, hnc, hcm, hcs, ht⟩
 ·have hx : xs.length = n * k := h.1
  exact ⟨0, ⟨hx, none, 0, by rw [h0], by omega, fun h => absurd h (by omega)⟩, fun h => absurd h (by omega)⟩
 ·refine ⟨g, ⟨h.1, _, cap, rfl, hnc, fun h0 => ⟨(hlt g rfl).2, 0, rfl, fun j u hj => ?_⟩⟩, fun _ => (hlt g rfl).1⟩
  have hjl : j < xs.length := (List.getElem?_eq_some_iff.1 hj).1
  have hx : xs.length = n * k := h.1
  rw [World.ownsRow.cellAt hh (0 + j) (by omega), Nat.zero_add, hj]
theorem OwnK.shape (h : OwnK e k w base v n xs) : ∃ A c, v = .slice A n c := by
 rcases h.2 with ⟨rfl, h0⟩ | ⟨g, cap, cur, rfl, _⟩
 ·exact ⟨none, 0, by rw [h0]⟩
 ·exact ⟨_, _, rfl⟩
end
def AppK (e : TypeId) (k : Nat) (w : World) (base : Nat) (v : Value) (n : Nat) (xs : List Value) (v' : Value) (w' : World) : Prop :=
 OwnK e k w' base v' n xs ∧ w.grownBy w' v.ownBlock ∧ (v'.ownBlock = v.ownBlock ∨ v'.ownBlock = some w.heap.size) ∧ ∃ g c, v' = .slice (some ⟨g, 0, none⟩) n c
theorem AppK.below {e : TypeId} {k : Nat} {w w' : World} {base : Nat} {v v' : Value} {n m : Nat} {xs ys : List Value} (h : AppK e k w base v n xs v' w') (hown : OwnK e k w base v m ys) (hb : base ≤ w.heap.size) : Below base w w' :=
 (Below.refl _ _).grown h.2.1 hb fun b e => (hown.lt b e).1
theorem run_append_k {P : Program} {ts e : TypeId} {z : Value} {k bytes : Nat} (hu : P.underlying ts = some (.slice e))
  (hinfo : (P.info? e).map (fun i => (i.zero, i.size, i.bytes)) = some (some z, k, bytes)) (hz : z.cells.size = k) (hk : 0 < k) (w : World) (base : Nat) (v : Value) (n : Nat) (xs : List Value) (hown : OwnK e k w base v n xs)
  (g : Nat) (ys : List Value) (hblk : Blk w g e ys.toArray) (hys : ys.length = k) (hone : ∀ u ∈ ys, u.oneCell' = true)
  (hb : (n + 1) * bytes ≤ 140737488355328) (hlen : n + 1 ≤ 140737488355328) (hbase : base ≤ w.heap.size) :
  ∃ v' w', (Builtin.append_ #[ts, ts] ts #[v, .slice (some ⟨g, 0, none⟩) 1 1]).run P w = .ok v' w' ∧ AppK e k w base v (n + 1) (xs ++ ys) v' w' := by
 obtain ⟨i, hi, hz0, hz1, hz2⟩ := info_parts hinfo
 obtain ⟨v', w', hrun, k1, k2, _, k3⟩ := run_append_own_at (P := P) (w := w) base ts ts e i z k bytes hu hi hz0 hz1 hz2 hz hk v n xs hown
  ⟨g, 0, none⟩ 1 1 ys (by omega) (fun j u hj => by
   have e1 : (⟨g, 0, none⟩ : Addr).add j = ⟨g, j, none⟩ := by unfold Addr.add; split <;> simp_all
   rw [e1, hblk.cell]
   simpa using hj) hone (by unfold maxLen; omega) hb hbase
 refine ⟨v', w', hrun, k1, k2, k3, ?_⟩
 rcases k1.2 with ⟨_, h0⟩ | ⟨g', cap, _, rfl, _⟩
 ·omega
 ·exact ⟨g', cap, rfl⟩
theorem wp_append_k {P : Program} {ts e : TypeId} {z : Value} {k bytes : Nat} (hu : P.underlying ts = some (.slice e))
  (hinfo : (P.info? e).map (fun i => (i.zero, i.size, i.bytes)) = some (some z, k, bytes)) (hz : z.cells.size = k) (hk : 0 < k) {w : World} {o : Oper} {a : Act} {K : Act → World → Prop} {Q : Exit → Act → World → Prop} (s x : Operand)
  (ho : o.op = .call { callee := .builtin .append, args := #[s, x], argTypes := #[ts, ts] }) (hty : o.type = ts)
  (base : Nat) (v : Value) (n : Nat) (xs : List Value) (hs : a.eval s = v) (hown : OwnK e k w base v n xs) (g : Nat) (hx : a.eval x = .slice (some ⟨g, 0, none⟩) 1 1)
  (ys : List Value) (hblk : Blk w g e ys.toArray) (hys : ys.length = k) (hone : ∀ u ∈ ys, u.oneCell' = true)
  (hb : (n + 1) * bytes ≤ 140737488355328) (hlen : n + 1 ≤ 140737488355328) (hbase : base ≤ w.heap.size)
  (hK : ∀ v' w', AppK e k w base v (n + 1) (xs ++ ys) v' w' → K (a.put o.dst v') w') : o.wp P a w K Q := by
 obtain ⟨v', w', hrun, h2⟩ := run_append_k hu hinfo hz hk w base v n xs hown g ys hblk hys hone hb hlen hbase
 unfold Oper.wp execOp
 simp only [ho, hty, resolve, invoke, builtin, Sem.run_bind, Sem.run_pure, Result.andThen_ok, List.map_toArray, List.map_cons, List.map_nil, hs, hx, hrun]
 exact hK v' w' h2
theorem wpList_append_k {P : Program} {ts e : TypeId} {z : Value} {k bytes : Nat} (hu : P.underlying ts = some (.slice e))
  (hinfo : (P.info? e).map (fun i => (i.zero, i.size, i.bytes)) = some (some z, k, bytes)) (hz : z.cells.size = k) (hk : 0 < k) {w : World} {ops : Array Oper} {rest : List Oper} {o : Oper} {a : Act} {Q : Exit → Act → World → Prop} (hgd : o.guard = none) (s x : Operand)
  (ho : o.op = .call { callee := .builtin .append, args := #[s, x], argTypes := #[ts, ts] }) (hty : o.type = ts)
  (base : Nat) (v : Value) (n : Nat) (xs : List Value) (hs : a.eval s = v) (hown : OwnK e k w base v n xs) (g : Nat) (hx : a.eval x = .slice (some ⟨g, 0, none⟩) 1 1)
  (ys : List Value) (hblk : Blk w g e ys.toArray) (hys : ys.length = k) (hone : ∀ u ∈ ys, u.oneCell' = true)
  (hb : (n + 1) * bytes ≤ 140737488355328) (hlen : n + 1 ≤ 140737488355328) (hbase : base ≤ w.heap.size)
  (hK : ∀ v' w', AppK e k w base v (n + 1) (xs ++ ys) v' w' → wpList P ops Q rest (a.put o.dst v') w') : wpList P ops Q (o :: rest) a w :=
 wpList_plain hgd fun _ hK' => wp_append_k hu hinfo hz hk s x ho hty base v n xs hs hown g hx ys hblk hys hone hb hlen hbase fun v' w' hp => hK' _ _ (hK v' w' hp)
inductive Fr (α : Type) where
 | nil
 | cons (a : α) (k r : Fr α)
namespace Fr
variable {α : Type}
def len : Fr α → Nat
 | nil => 0
 | cons _ _ r => r.len + 1
def app : Fr α → Fr α → Fr α
 | nil, g => g
 | cons a k r, g => cons a k (r.app g)
def drop : Nat → Fr α → Fr α
 | 0, f => f
 | _ + 1, nil => nil
 | n + 1, cons _ _ r => drop n r
def take : Nat → Fr α → Fr α
 | 0, _ => nil
 | _ + 1, nil => nil
 | n + 1, cons a k r => cons a k (take n r)
def get? : Fr α → Nat → Option (α × Fr α)
 | nil, _ => none
 | cons a k _, 0 => some (a, k)
 | cons _ _ r, n + 1 => r.get? n
def size : Fr α → Nat
 | nil => 0
 | cons _ k r => k.size + r.size + 1
def deep : Fr α → Nat
 | nil => 0
 | cons _ k r => max (k.deep + 1) r.deep
theorem len_cons (a : α) (k r : Fr α) : (cons a k r).len = r.len + 1 := rfl
theorem len_app (f g : Fr α) : (f.app g).len = f.len + g.len := by
 induction f with
 | nil => simp [app, len]
 | cons a k r _ ih => simp only [app, len, ih]; omega
theorem app_nil (f : Fr α) : f.app nil = f := by
 induction f with
 | nil => rfl
 | cons a k r _ ih => simp only [app, ih]
theorem app_assoc (f g h : Fr α) : (f.app g).app h = f.app (g.app h) := by
 induction f with
 | nil => rfl
 | cons a k r _ ih => simp only [app, ih]
theorem len_size (f : Fr α) : f.len ≤ f.size := by
 induction f with
 | nil => exact Nat.le_refl _
 | cons a k r _ ih => simp only [len, size]; omega
theorem size_app (f g : Fr α) : (f.app g).size = f.size + g.size := by
 induction f with
 | nil => simp [app, size]
 | cons a k r _ ih => simp only [app, size, ih]; omega
theorem take_app_drop (n : Nat) : ∀ f : Fr α, (take n f).app (drop n f) = f := by
 induction n with
 | zero => intro f; rfl
 | succ n ih =>
  intro f
  cases f with
  | nil => rfl
  | cons a k r => simp only [take, drop, app, ih]
theorem take_all (f : Fr α) : take f.len f = f := by
 induction f with
 | nil => rfl
 | cons a k r _ ih => simp only [len, take, ih]
theorem len_drop (n : Nat) : ∀ f : Fr α, (drop n f).len = f.len - n := by
 induction n with
 | zero => intro f; rfl
 | succ n ih =>
  intro f
  cases f with
  | nil => simp [drop, len]
  | cons a k r => simp only [drop, len, ih]; omega
theorem len_take (n : Nat) : ∀ f : Fr α, n ≤ f.len → (take n f).len = n := by
 induction n with
 | zero => intro f _; rfl
 | succ n ih =>
  intro f h
  cases f with
  | nil => simp [len] at h
  | cons a k r => simp only [take, len]; rw [ih r (by simp only [len] at h; omega)]
theorem get_some {f : Fr α} : ∀ {n : Nat}, n < f.len → ∃ a k, f.get? n = some (a, k) := by
 induction f with
 | nil => intro n h; simp [len] at h
 | cons a k r _ ih =>
  intro n h
  cases n with
  | zero => exact ⟨a, k, rfl⟩
  | succ n => exact ih (by simp only [len] at h; omega)
theorem get_lt {f : Fr α} : ∀ {n : Nat} {x : α × Fr α}, f.get? n = some x → n < f.len := by
 induction f with
 | nil => intro n x h; cases h
 | cons a k r _ ih =>
  intro n x h
  cases n with
  | zero => simp [len]
  | succ n => have := ih h; simp only [len]; omega
theorem get_none {f : Fr α} : ∀ {n : Nat}, f.len ≤ n → f.get? n = none := by
 induction f with
 | nil => intro n _; rfl
 | cons a k r _ ih =>
  intro n h
  cases n with
  | zero => simp [len] at h
  | succ n => exact ih (by simp only [len] at h; omega)
theorem get_drop {f : Fr α} : ∀ {n : Nat} {a : α} {k : Fr α}, f.get? n = some (a, k) → drop n f = cons a k (drop (n + 1) f) ∧ take (n + 1) f = (take n f).app (cons a k nil) := by
 induction f with
 | nil => intro n a k h; cases h
 | cons b q r _ ih =>
  intro n a k h
  cases n with
  | zero => injection h with h; injection h with h1 h2; subst h1 h2; exact ⟨rfl, rfl⟩
  | succ n =>
   obtain ⟨h1, h2⟩ := ih h
   refine ⟨h1, ?_⟩
   show cons b q (take (n + 1) r) = cons b q ((take n r).app _)
   rw [h2]
theorem size_get {f : Fr α} : ∀ {n : Nat} {a : α} {k : Fr α}, f.get? n = some (a, k) → k.size < f.size := by
 induction f with
 | nil => intro n a k h; cases h
 | cons b q r _ ih =>
  intro n a k h
  cases n with
  | zero => injection h with h; injection h with h1 h2; subst h1 h2; simp only [size]; omega
  | succ n => have := ih h; simp only [size]; omega
theorem ext {f : Fr α} : ∀ {g : Fr α}, f.len = g.len → (∀ n, n < f.len → f.get? n = g.get? n) → f = g := by
 induction f with
 | nil =>
  intro g h _
  cases g with
  | nil => rfl
  | cons => simp [len] at h
 | cons a k r _ ih =>
  intro g h hg
  cases g with
  | nil => simp [len] at h
  | cons b q s =>
   have h0 := hg 0 (by simp [len])
   injection h0 with h0
   injection h0 with h1 h2
   rw [h1, h2, ih (g := s) (by simp only [len] at h; omega) (fun n hn => hg (n + 1) (by simp only [len]; omega))]
def eqb [DecidableEq α] : Fr α → Fr α → Bool
 | nil, nil => true
 | cons a k r, cons b q s => decide (a = b) && eqb k q && eqb r s
 | _, _ => false
theorem eqb_iff [DecidableEq α] {f : Fr α} : ∀ {g : Fr α}, eqb f g = true ↔ f = g := by
 induction f with
 | nil =>
  intro g
  cases g with
  | nil => simp [eqb]
  | cons => simp [eqb]
 | cons a k r ihk ihr =>
  intro g
  cases g with
  | nil => simp [eqb]
  | cons b q s => simp [eqb, ihk, ihr, and_assoc]
instance [DecidableEq α] : DecidableEq (Fr α) := fun _ _ => decidable_of_iff _ eqb_iff
def kidsAll (P : Fr α → Prop) : Fr α → Prop
 | nil => True
 | cons _ k r => P k ∧ kidsAll P r
theorem kidsAll_get {P : Fr α → Prop} {f : Fr α} : ∀ {n : Nat} {a : α} {k : Fr α}, kidsAll P f → f.get? n = some (a, k) → P k := by
 induction f with
 | nil => intro n a k _ h; cases h
 | cons b q r _ ih =>
  intro n a k hP h
  cases n with
  | zero => injection h with h; injection h with h1 h2; subst h1 h2; exact hP.1
  | succ n => exact ih hP.2 h
theorem byKids {P : Fr α → Prop} (h : ∀ f, (∀ n a k, f.get? n = some (a, k) → P k) → P f) (f : Fr α) : P f := by
 have both : ∀ f, P f ∧ kidsAll P f := by
  intro f
  induction f with
  | nil => exact ⟨h _ (fun n a k e => by cases e), trivial⟩
  | cons a k r ihk ihr =>
   have hk : kidsAll P (cons a k r) := ⟨ihk.1, ihr.2⟩
   exact ⟨h _ (fun n b q e => kidsAll_get hk e), hk⟩
 exact (both f).1
end Fr
abbrev RdOf (α : Type) := World → (Nat → Prop) → List Value → α → Prop
def FrAt {α : Type} (D : RdOf α) (K p : Nat) (w : World) (S N : Nat → Prop) : Fr α → Nat → Nat → Prop
 | .nil, _, _ => True
 | .cons a k r, b, o => (∃ cs : List Value, cs.length = K ∧ (∀ i u, cs[i]? = some u → w.cell? ⟨b, o + i, none⟩ = some u) ∧ D w N cs a ∧
   ∃ A c, cs[p]? = some (.slice A k.len c) ∧ k.len ≤ c ∧ (0 < k.len → ∃ b' o', A = some ⟨b', o', none⟩ ∧ S b' ∧ FrAt D K p w S N k b' o')) ∧ FrAt D K p w S N r b (o + K)
def FrV {α : Type} (D : RdOf α) (K p : Nat) (w : World) (S N : Nat → Prop) (v : Value) (f : Fr α) : Prop :=
 ∃ A c, v = .slice A f.len c ∧ f.len ≤ c ∧ (0 < f.len → ∃ b o, A = some ⟨b, o, none⟩ ∧ S b ∧ FrAt D K p w S N f b o)
def FrN {α : Type} (D : RdOf α) (K p : Nat) (w : World) (S N : Nat → Prop) (cs : List Value) (a : α) (k : Fr α) : Prop :=
 cs.length = K ∧ D w N cs a ∧ ∃ v, cs[p]? = some v ∧ FrV D K p w S N v k
def StayD {α : Type} (D : RdOf α) : Prop := ∀ (w w' : World) (N N' : Nat → Prop) cs a, (∀ g, N g → w'.heap[g]? = w.heap[g]?) → (∀ g, N g → N' g) → D w N cs a → D w' N' cs a
def OneD {α : Type} (D : RdOf α) : Prop := ∀ w N cs a, D w N cs a → ∀ u ∈ cs, u.oneCell' = true
section
variable {α : Type} {D : RdOf α} {K p : Nat} {w w' : World} {S S' N N' : Nat → Prop}
theorem FrAt.kept (hD : StayD D) (hk : ∀ g, S g → w'.heap[g]? = w.heap[g]?) (hS : ∀ g, S g → S' g) (hn : ∀ g, N g → w'.heap[g]? = w.heap[g]?) (hN : ∀ g, N g → N' g) :
  ∀ {f : Fr α} {b o : Nat}, S b → FrAt D K p w S N f b o → FrAt D K p w' S' N' f b o := by
 intro f
 induction f with
 | nil => intro b o _ _; trivial
 | cons a k r ihk ihr =>
  intro b o hb ⟨⟨cs, h1, h2, h3, A, c, h4, h5, h6⟩, h7⟩
  have hc : ∀ i, w'.cell? ⟨b, i, none⟩ = w.cell? ⟨b, i, none⟩ := fun i => World.cell?_of_block (w := w) (hk b hb)
  refine ⟨⟨cs, h1, fun i u hu => (hc _).trans (h2 i u hu), hD _ _ _ _ _ _ hn hN h3, A, c, h4, h5, fun h0 => ?_⟩, ihr hb h7⟩
  obtain ⟨b', o', h8, h9, h10⟩ := h6 h0
  exact ⟨b', o', h8, hS _ h9, ihk h9 h10⟩
theorem FrV.kept {v : Value} {f : Fr α} (hD : StayD D) (h : FrV D K p w S N v f) (hk : ∀ g, S g → w'.heap[g]? = w.heap[g]?) (hS : ∀ g, S g → S' g) (hn : ∀ g, N g → w'.heap[g]? = w.heap[g]?) (hN : ∀ g, N g → N' g) : FrV D K p w' S' N' v f := by
 obtain ⟨A, c, rfl, h1, h2⟩ := h
 refine ⟨A, c, rfl, h1, fun h0 => ?_⟩
 obtain ⟨b, o, h3, h4, h5⟩ := h2 h0
 exact ⟨b, o, h3, hS _ h4, h5.kept hD hk hS hn hN h4⟩
theorem FrN.kept {cs : List Value} {a : α} {k : Fr α} (hD : StayD D) (h : FrN D K p w S N cs a k) (hk : ∀ g, S g → w'.heap[g]? = w.heap[g]?) (hS : ∀ g, S g → S' g) (hn : ∀ g, N g → w'.heap[g]? = w.heap[g]?) (hN : ∀ g, N g → N' g) : FrN D K p w' S' N' cs a k := by
 obtain ⟨h1, h2, v, h3, h4⟩ := h
 exact ⟨h1, hD _ _ _ _ _ _ hn hN h2, v, h3, h4.kept hD hk hS hn hN⟩
theorem FrV.mono {v : Value} {f : Fr α} (hD : StayD D) (h : FrV D K p w S N v f) (hS : ∀ g, S g → S' g) (hN : ∀ g, N g → N' g) : FrV D K p w S' N' v f := h.kept hD (fun _ _ => rfl) hS (fun _ _ => rfl) hN
theorem FrN.mono {cs : List Value} {a : α} {k : Fr α} (hD : StayD D) (h : FrN D K p w S N cs a k) (hS : ∀ g, S g → S' g) (hN : ∀ g, N g → N' g) : FrN D K p w S' N' cs a k := h.kept hD (fun _ _ => rfl) hS (fun _ _ => rfl) hN
theorem FrV.empty (w : World) (S N : Nat → Prop) : FrV D K p w S N (.slice none 0 0) .nil := ⟨none, 0, rfl, Nat.le_refl _, fun h => absurd h (by simp [Fr.len])⟩
theorem FrV.shape {v : Value} {f : Fr α} (h : FrV D K p w S N v f) : ∃ A c, v = .slice A f.len c := by
 obtain ⟨A, c, e, _⟩ := h
 exact ⟨A, c, e⟩
theorem FrAt.drop (n : Nat) : ∀ {f : Fr α} {b o : Nat}, FrAt D K p w S N f b o → FrAt D K p w S N (Fr.drop n f) b (o + n * K) := by
 induction n with
 | zero => intro f b o h; simpa [Fr.drop] using h
 | succ n ih =>
  intro f b o h
  cases f with
  | nil => trivial
  | cons a k r =>
   have h7 := ih h.2
   have e : o + K + n * K = o + (n + 1) * K := by rw [Nat.add_mul]; omega
   rw [e] at h7
   exact h7
theorem FrV.at {v : Value} {f : Fr α} (h : FrV D K p w S N v f) {n : Nat} {a : α} {k : Fr α} (hn : f.get? n = some (a, k)) :
  ∃ b o c cs, v = .slice (some ⟨b, o, none⟩) f.len c ∧ f.len ≤ c ∧ S b ∧ FrN D K p w S N cs a k ∧ ∀ i u, cs[i]? = some u → w.cell? ⟨b, o + n * K + i, none⟩ = some u := by
 have hlt := Fr.get_lt hn
 obtain ⟨A, c, rfl, h1, h2⟩ := h
 obtain ⟨b, o, rfl, h3, h4⟩ := h2 (by omega)
 have h7 := h4.drop n
 rw [(Fr.get_drop hn).1] at h7
 obtain ⟨⟨cs, g1, g2, g3, A', c', g4, g5, g6⟩, _⟩ := h7
 exact ⟨b, o, c, cs, rfl, h1, h3, ⟨g1, g3, _, g4, A', c', rfl, g5, g6⟩, g2⟩
end
def rowG {α : Type} (D : RdOf α) (K p : Nat) (w : World) (S N : Nat → Prop) : List Value → Fr α → Prop
 | xs, .nil => xs = []
 | xs, .cons a k r => ∃ cs ys, xs = cs ++ ys ∧ FrN D K p w S N cs a k ∧ rowG D K p w S N ys r
section
variable {α : Type} {D : RdOf α} {K p : Nat} {w w' : World} {S S' N N' : Nat → Prop}
theorem rowG.kept (hD : StayD D) (hk : ∀ g, S g → w'.heap[g]? = w.heap[g]?) (hS : ∀ g, S g → S' g) (hn : ∀ g, N g → w'.heap[g]? = w.heap[g]?) (hN : ∀ g, N g → N' g) : ∀ {f : Fr α} {xs : List Value}, rowG D K p w S N xs f → rowG D K p w' S' N' xs f := by
 intro f
 induction f with
 | nil => intro xs h; exact h
 | cons a k r _ ih =>
  intro xs h
  obtain ⟨cs, ys, rfl, h1, h2⟩ := h
  exact ⟨cs, ys, rfl, h1.kept hD hk hS hn hN, ih h2⟩
theorem rowG.len : ∀ {f : Fr α} {xs : List Value}, rowG D K p w S N xs f → xs.length = f.len * K := by
 intro f
 induction f with
 | nil => intro xs h; rw [show xs = [] from h]; simp [Fr.len]
 | cons a k r _ ih =>
  intro xs h
  obtain ⟨cs, ys, rfl, h1, h2⟩ := h
  rw [List.length_append, h1.1, ih h2, Fr.len_cons, Nat.add_mul]
  omega
theorem rowG.app {g : Fr α} {ys : List Value} (h2 : rowG D K p w S N ys g) : ∀ {f : Fr α} {xs : List Value}, rowG D K p w S N xs f → rowG D K p w S N (xs ++ ys) (f.app g) := by
 intro f
 induction f with
 | nil => intro xs h; rw [show xs = [] from h]; exact h2
 | cons a k r _ ih =>
  intro xs h
  obtain ⟨cs, zs, rfl, g1, g2⟩ := h
  exact ⟨cs, zs ++ ys, by rw [List.append_assoc], g1, ih g2⟩
theorem rowG.one {a : α} {k : Fr α} {cs : List Value} (h : FrN D K p w S N cs a k) : rowG D K p w S N cs (.cons a k .nil) := ⟨cs, [], by simp, h, rfl⟩
theorem rowG.snoc {f : Fr α} {xs : List Value} (h : rowG D K p w S N xs f) {a : α} {k : Fr α} {cs : List Value} (h1 : FrN D K p w S N cs a k) : rowG D K p w S N (xs ++ cs) (f.app (.cons a k .nil)) := rowG.app (rowG.one h1) h
theorem rowG.at {b : Nat} : ∀ {f : Fr α} {xs : List Value} {o : Nat}, rowG D K p w S N xs f → (∀ j u, xs[j]? = some u → w.cell? ⟨b, o + j, none⟩ = some u) → FrAt D K p w S N f b o := by
 intro f
 induction f with
 | nil => intro xs o _ _; trivial
 | cons a k r _ ih =>
  intro xs o h hc
  obtain ⟨cs, ys, rfl, ⟨g1, g2, v, g3, A, c, rfl, g4, g5⟩, g6⟩ := h
  refine ⟨⟨cs, g1, fun i u hu => hc i u ?_, g2, A, c, g3, g4, g5⟩, ih g6 (fun j u hj => ?_)⟩
  ·rw [List.getElem?_append_left (List.getElem?_eq_some_iff.1 hu).1]; exact hu
  ·have h := hc (K + j) u (by rw [List.getElem?_append_right (by omega), g1, show K + j - K = j by omega]; exact hj)
   rwa [show o + (K + j) = o + K + j by omega] at h
theorem FrAt.row {b : Nat} : ∀ {f : Fr α} {o : Nat}, FrAt D K p w S N f b o → ∃ xs, rowG D K p w S N xs f ∧ ∀ j u, xs[j]? = some u → w.cell? ⟨b, o + j, none⟩ = some u := by
 intro f
 induction f with
 | nil => intro o _; exact ⟨[], rfl, fun j u h => by simp at h⟩
 | cons a k r _ ih =>
  intro o ⟨⟨cs, h1, h2, h3, A, c, h4, h5, h6⟩, h7⟩
  obtain ⟨ys, h8, h9⟩ := ih h7
  refine ⟨cs ++ ys, ⟨cs, ys, rfl, ⟨h1, h3, _, h4, A, c, rfl, h5, h6⟩, h8⟩, fun j u hj => ?_⟩
  by_cases hj0 : j < K
  ·rw [List.getElem?_append_left (by omega)] at hj
   exact h2 j u hj
  ·rw [List.getElem?_append_right (by omega), h1] at hj
   have := h9 (j - K) u hj
   rwa [show o + K + (j - K) = o + j by omega] at this
end
def Its (base : Nat) (w : World) (v : Value) (g : Nat) : Prop := base ≤ g ∧ g < w.heap.size ∧ some g ≠ v.ownBlock
def OwnG {α : Type} (D : RdOf α) (e : TypeId) (K p : Nat) (w : World) (base : Nat) (S N : Nat → Prop) (v : Value) (f : Fr α) : Prop :=
 (∀ g, S g → g < w.heap.size ∧ some g ≠ v.ownBlock) ∧ (∀ g, N g → g < w.heap.size ∧ some g ≠ v.ownBlock) ∧ ∃ xs, OwnK e K w base v f.len xs ∧ rowG D K p w S N xs f
section
variable {α : Type} {D : RdOf α} {e : TypeId} {K p : Nat} {w w' : World} {base : Nat} {S S' N N' : Nat → Prop} {v : Value} {f : Fr α}
theorem OwnG.nil (w : World) (base : Nat) : OwnG D e K p w base (fun _ => False) (fun _ => False) (.slice none 0 0) (.nil : Fr α) := ⟨fun _ h => h.elim, fun _ h => h.elim, [], OwnK.nil _ _ _ _, rfl⟩
theorem OwnG.below (hD : StayD D) (h : OwnG D e K p w base S N v f) (hb : Below w.heap.size w w') : OwnG D e K p w' base S N v f := by
 obtain ⟨hS, hN, xs, h1, h2⟩ := h
 exact ⟨fun g hg => ⟨Nat.lt_of_lt_of_le (hS g hg).1 hb.size, (hS g hg).2⟩, fun g hg => ⟨Nat.lt_of_lt_of_le (hN g hg).1 hb.size, (hN g hg).2⟩, xs, h1.below hb,
  h2.kept hD (fun g hg => hb.block g (hS g hg).1) (fun g hg => hg) (fun g hg => hb.block g (hN g hg).1) (fun g hg => hg)⟩
theorem OwnG.widen (hD : StayD D) (h : OwnG D e K p w base S N v f) (hS : ∀ g, S g → S' g) (hN : ∀ g, N g → N' g) (hS2 : ∀ g, S' g → g < w.heap.size ∧ some g ≠ v.ownBlock) (hN2 : ∀ g, N' g → g < w.heap.size ∧ some g ≠ v.ownBlock) : OwnG D e K p w base S' N' v f := by
 obtain ⟨_, _, xs, h1, h2⟩ := h
 exact ⟨hS2, hN2, xs, h1, h2.kept hD (fun _ _ => rfl) hS (fun _ _ => rfl) hN⟩
theorem OwnG.lt (h : OwnG D e K p w base S N v f) : ∀ k, v.ownBlock = some k → base ≤ k ∧ k < w.heap.size := by
 obtain ⟨_, _, xs, h1, _⟩ := h
 exact h1.lt
theorem OwnG.shape (h : OwnG D e K p w base S N v f) : ∃ A c, v = .slice A f.len c := by
 obtain ⟨_, _, xs, h1, _⟩ := h
 exact h1.shape
theorem OwnG.frv (hD : StayD D) (h : OwnG D e K p w base S N v f) : FrV D K p w (fun g => S g ∨ v.ownBlock = some g) N v f := by
 obtain ⟨hS, hN, xs, h1, h2⟩ := h
 have h2' : rowG D K p w (fun g => S g ∨ v.ownBlock = some g) N xs f := h2.kept hD (fun _ _ => rfl) (fun g hg => .inl hg) (fun _ _ => rfl) (fun _ hg => hg)
 have hh := h1
 rcases h1.2 with ⟨rfl, h0⟩ | ⟨g, cap, cur, rfl, hb, hg, hnc, hcm, hcs, ht⟩
 ·exact ⟨none, 0, by rw [h0], by omega, fun h => absurd h (by omega)⟩
 ·refine ⟨_, cap, rfl, hnc, fun h0 => ⟨g, 0, rfl, .inr rfl, h2'.at (fun j u hj => ?_)⟩⟩
  have hjl : j < xs.length := (List.getElem?_eq_some_iff.1 hj).1
  have hxl : xs.length = f.len * K := h1.1
  rw [World.ownsRow.cellAt hh (0 + j) (by omega), Nat.zero_add, hj]
theorem OwnG.app (hD : StayD D) {xs ys : List Value} {v' : Value} {g : Fr α} (hown : OwnG D e K p w base S N v f) (hxr : rowG D K p w S N xs f)
  (h1 : OwnK e K w' base v' (f.app g).len (xs ++ ys)) (h2 : w.grownBy w' v.ownBlock) (h3 : v'.ownBlock = v.ownBlock ∨ v'.ownBlock = some w.heap.size) (hy : rowG D K p w S N ys g) : OwnG D e K p w' base S N v' (f.app g) := by
 obtain ⟨hS, hN, _⟩ := hown
 have sep : ∀ k, k < w.heap.size → some k ≠ v.ownBlock → some k ≠ v'.ownBlock := by
  intro k hk hne
  rcases h3 with h | h
  ·rw [h]; exact hne
  ·rw [h]; intro h'; injection h' with h'; omega
 exact ⟨fun k hk => ⟨Nat.lt_of_lt_of_le (hS k hk).1 h2.size, sep k (hS k hk).1 (hS k hk).2⟩, fun k hk => ⟨Nat.lt_of_lt_of_le (hN k hk).1 h2.size, sep k (hN k hk).1 (hN k hk).2⟩, xs ++ ys, h1,
  (rowG.app hy hxr).kept hD (fun k hk => h2.block k (hS k hk).1 (hS k hk).2) (fun _ h => h) (fun k hk => h2.block k (hN k hk).1 (hN k hk).2) (fun _ h => h)⟩
end
def Vals (w : World) (d : Nat) (v : Value) (xs : List Value) : Prop :=
 ∃ A c, v = .slice A xs.length c ∧ xs.length ≤ c ∧ (0 < xs.length → d < w.heap.size ∧ ∃ off, A = some ⟨d, off, none⟩ ∧ ∀ j u, xs[j]? = some u → w.cell? ⟨d, off + j, none⟩ = some u)
section
variable {w w' : World} {d : Nat} {v : Value} {xs : List Value}
theorem Vals.shape (h : Vals w d v xs) : ∃ A c, v = .slice A xs.length c := by obtain ⟨A, c, h, _⟩ := h; exact ⟨A, c, h⟩
theorem Vals.nil (w : World) (d : Nat) : Vals w d (.slice none 0 0) [] := ⟨none, 0, rfl, Nat.le_refl _, fun h => absurd h (by simp)⟩
theorem Vals.below {B : Nat} (h : Vals w d v xs) (hb : Below B w w') (hd : 0 < xs.length → d < B) : Vals w' d v xs := by
 obtain ⟨A, c, rfl, h1, h2⟩ := h
 refine ⟨A, c, rfl, h1, fun hp => ?_⟩
 obtain ⟨hlt, off, rfl, hc⟩ := h2 hp
 exact ⟨Nat.lt_of_lt_of_le hlt hb.size, off, rfl, fun j x hx => (hb.cell (p := ⟨d, off + j, none⟩) (hd hp)).trans (hc j x hx)⟩
theorem Vals.lt (h : Vals w d v xs) (hp : 0 < xs.length) : d < w.heap.size := by obtain ⟨A, c, rfl, h1, h2⟩ := h; exact (h2 hp).1
theorem Vals.below' (h : Vals w d v xs) (hb : Below w.heap.size w w') : Vals w' d v xs := h.below hb h.lt
theorem Vals.at {A : Option Addr} {n c : Nat} (h : Vals w d (.slice A n c) xs) {j : Nat} {u : Value} (hj : xs[j]? = some u) :
  ∃ off, A = some ⟨d, off, none⟩ ∧ d < w.heap.size ∧ j < n ∧ n = xs.length ∧ w.cell? ⟨d, off + j, none⟩ = some u := by
 obtain ⟨A', c', he, h1, h2⟩ := h
 injection he with e1 e2 e3
 subst e1 e2 e3
 have hjl : j < xs.length := (List.getElem?_eq_some_iff.1 hj).1
 obtain ⟨hlt, off, rfl, hc⟩ := h2 (by omega)
 exact ⟨off, rfl, hlt, hjl, rfl, hc j u hj⟩
end
def OwnV (e : TypeId) (w : World) (base : Nat) (v : Value) (xs : List Value) : Prop := w.ownsRow base e 1 v xs.length xs
section
variable {w w' : World} {e : TypeId} {base : Nat} {v : Value} {xs : List Value}
theorem OwnV.nil (w : World) (base : Nat) : OwnV e w base (.slice none 0 0) [] := World.ownsRow_nil w base e 1
theorem OwnV.below (h : OwnV e w base v xs) (hb : Below w.heap.size w w') : OwnV e w' base v xs :=
 World.ownsRow.kept h ⟨hb.os, hb.tape, hb.output, hb.size, fun k hk _ => hb.block k hk⟩ (row := none) (by cases hv : v.ownBlock <;> simp)
theorem OwnV.lt (h : OwnV e w base v xs) : ∀ k, v.ownBlock = some k → base ≤ k ∧ k < w.heap.size := fun k hk => World.ownsRow.lt h k hk
end
def AppV (e : TypeId) (w : World) (base : Nat) (v : Value) (xs : List Value) (v' : Value) (w' : World) : Prop :=
 OwnV e w' base v' xs ∧ w.grownBy w' v.ownBlock ∧ (v'.ownBlock = v.ownBlock ∨ v'.ownBlock = some w.heap.size) ∧ ∃ g c, v' = .slice (some ⟨g, 0, none⟩) xs.length c
theorem AppV.below {e : TypeId} {w w' : World} {base : Nat} {v v' : Value} {xs ys : List Value} (h : AppV e w base v xs v' w') (hown : OwnV e w base v ys) (hb : base ≤ w.heap.size) : Below base w w' :=
 (Below.refl _ _).grown h.2.1 hb fun k e => (hown.lt k e).1
def txts (ls : List (List UInt8)) : List Value := ls.map fun l => .string (txt l)
structure SpD where
 name : List UInt8
 kind : Nat
 typ : Nat
 low : Nat
 high : Nat
 names : List (List UInt8)
 must : Bool
 most : Nat
theorem SpD.ext_ {a b : SpD} (h1 : a.name = b.name) (h2 : a.kind = b.kind) (h3 : a.typ = b.typ) (h4 : a.low = b.low) (h5 : a.high = b.high) (h6 : a.names = b.names) (h7 : a.must = b.must) (h8 : a.most = b.most) : a = b := by
 cases a; cases b; simp_all
instance : DecidableEq SpD := fun a b => decidable_of_iff (a.name = b.name ∧ a.kind = b.kind ∧ a.typ = b.typ ∧ a.low = b.low ∧ a.high = b.high ∧ a.names = b.names ∧ a.must = b.must ∧ a.most = b.most)
 ⟨fun ⟨h1, h2, h3, h4, h5, h6, h7, h8⟩ => SpD.ext_ h1 h2 h3 h4 h5 h6 h7 h8, fun h => by subst h; exact ⟨rfl, rfl, rfl, rfl, rfl, rfl, rfl, rfl⟩⟩
abbrev SpF := Fr SpD
abbrev Sp := SpD × SpF
def nQuantum : List UInt8 := [113, 117, 97, 110, 116, 117, 109]
def nRate : List UInt8 := [114, 97, 116, 101]
def nBurst : List UInt8 := [98, 117, 114, 115, 116]
def nLimit : List UInt8 := [108, 105, 109, 105, 116]
def nDepth : List UInt8 := [100, 101, 112, 116, 104]
def nShaped : List UInt8 := [115, 104, 97, 112, 101, 100]
def nLow : List UInt8 := [108, 111, 119]
def nHigh : List UInt8 := [104, 105, 103, 104]
def nClass : List UInt8 := [99, 108, 97, 115, 115]
def nUp : List UInt8 := [117, 112]
def nRule : List UInt8 := [114, 117, 108, 101]
def nDefault : List UInt8 := [100, 101, 102, 97, 117, 108, 116]
def nKind : List UInt8 := [107, 105, 110, 100]
def nSystem : List UInt8 := [115, 121, 115, 116, 101, 109]
def nPort : List UInt8 := [112, 111, 114, 116]
def nWait : List UInt8 := [119, 97, 105, 116]
def nEdge : List UInt8 := [101, 100, 103, 101]
def nCore : List UInt8 := [99, 111, 114, 101]
def nLab : List UInt8 := [108, 97, 98]
def numD (n : List UInt8) (t lo hi : Nat) : SpD := ⟨n, 1, t, lo, hi, [], true, 0⟩
def leafD (n : List UInt8) (t : Nat) (must : Bool) : SpD := ⟨n, 1, t, 0, 0, [], must, 0⟩
def listD (n : List UInt8) (most : Nat) : SpD := ⟨n, 3, 0, 0, 0, [], false, most⟩
def kindD : SpD := ⟨nKind, 1, 4, 0, 0, [nEdge, nCore, nLab], false, 0⟩
def waitD : SpD := ⟨nWait, 1, 1, 1, 1000, [], false, 0⟩
def rootD : SpD := ⟨[], 2, 0, 0, 0, [], false, 0⟩
def frOf : List Sp → SpF
 | [] => .nil
 | x :: l => .cons x.1 x.2 (frOf l)
def classL (v : Nat) : List Sp :=
 [(numD nQuantum 1 1500 100000, .nil), (numD nRate 2 0 1000000, .nil), (numD nBurst 1 1500 1000000, .nil)] ++ [(numD (if v < 3 then nLimit else nDepth) 1 1 64, .nil)] ++ (if 1 < v then [(leafD nShaped 3 true, .nil)] else [])
def ruleL : List Sp := [(numD nLow 1 0 65535, .nil), (numD nHigh 1 0 65535, .nil), (leafD nClass 6 true, .nil)]
def portL (v : Nat) : List Sp :=
 [(leafD nUp 3 false, .nil), (listD nClass 8, frOf (classL v)), (listD nRule 16, frOf ruleL), (leafD nDefault 6 true, .nil)] ++ (if 1 < v then [(kindD, .nil)] else [])
def rootL (v : Nat) : List Sp := [(leafD nSystem 5 false, .nil), (listD nPort 4, frOf (portL v))] ++ (if 2 < v then [(waitD, .nil)] else [])
def rootF (v : Nat) : SpF := frOf (rootL v)
def inner : SpF → List Sp
 | .nil => []
 | .cons a k r => (a, k) :: (inner k ++ inner r)
theorem inner_get : ∀ {f : SpF} {i : Nat} {x : Sp}, f.get? i = some x → x ∈ inner f := by
 intro f
 induction f with
 | nil => intro i x h; cases h
 | cons a k r _ ih =>
  intro i x h
  cases i with
  | zero => injection h with h; subst h; simp [inner]
  | succ i => have := ih h; simp only [inner, List.mem_cons, List.mem_append]; exact .inr (.inr this)
theorem inner_in : ∀ {f : SpF} {x y : Sp}, x ∈ inner f → y ∈ inner x.2 → y ∈ inner f := by
 intro f
 induction f with
 | nil => intro x y h; cases h
 | cons a k r ihk ihr =>
  intro x y h hy
  simp only [inner, List.mem_cons, List.mem_append] at h ⊢
  rcases h with rfl | h | h
  ·exact .inr (.inl hy)
  ·exact .inr (.inl (ihk h hy))
  ·exact .inr (.inr (ihr h hy))
abbrev cS (n : ByteArray) (k t l h : Int) (N : Value) (m : Bool) (o : Int) (K : Value) : Array Value := #[.string n, .int .i64 k, .int .i64 t, .int .u64 l, .int .u64 h, N, .bool m, .int .i64 o, K]
abbrev cT (nm : List UInt8) (kd ty lo hi : Nat) (ns : List (List UInt8)) (mu : Bool) (mo : Nat) (B : Option Addr) (m : Nat) (A : Option Addr) (kn c : Nat) : Array Value := cS (txt nm) kd ty lo hi (.slice B ns.length m) mu mo (.slice A kn c)
end Go.Proofs.YtleidkpdpabkpaaGreatDoor

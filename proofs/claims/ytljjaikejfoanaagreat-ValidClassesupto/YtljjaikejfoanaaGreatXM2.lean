/- What ValidClasses stands on: ForestC, TreOpen, SpcNum, SclNum, ValNum, VadNum, SpcMem, OctRefB, SpcRefB, SclRefC, VlrA, VadOk. -/
import Derived.Test.YtljjaikejfoanaaGreatXM1
import Derived.Deep.Slices
import Derived.Deep.Fields
import Derived.ChangeSame
import Derived.SliceStrings
import Derived.OpenShut
import Derived.Test.YtljjaikejfoanaaGreatXM0
import Derived.Laws.Rows
import Derived.Outline
set_option linter.unusedSimpArgs false
set_option linter.unusedVariables false
namespace Go.Proofs.YtljjaikejfoanaaGreat
open Go.RowKit
section
variable {α : Type} {D : RdOf α} {e : TypeId} {K p : Nat} {w w' : World} {base : Nat} {S S' N N' : Nat → Prop} {v : Value} {f g : Fr α}
theorem FrAt.take (n : Nat) : ∀ {f : Fr α} {b o : Nat}, FrAt D K p w S N f b o → FrAt D K p w S N (Fr.take n f) b o := by
 induction n with
 | zero => intro f b o h; cases f <;> trivial
 | succ n ih =>
  intro f b o h
  cases f with
  | nil => trivial
  | cons a k r => exact ⟨h.1, ih h.2⟩
theorem FrV.front {A : Option Addr} {L c n : Nat} (hn : n ≤ f.len) (h : FrV D K p w S N (.slice A L c) f) : FrV D K p w S N (.slice A n c) (Fr.take n f) := by
 obtain ⟨A', c', e, h1, h2⟩ := h
 injection e with e1 e2 e3
 subst e1 e2 e3
 have hl := Fr.len_take n f hn
 refine ⟨A, c, by rw [hl], by omega, fun h0 => ?_⟩
 obtain ⟨b, o, h3, h4, h5⟩ := h2 (by omega)
 exact ⟨b, o, h3, h4, h5.take n⟩
theorem FrV.back {b o L c n : Nat} (hn : n ≤ f.len) (h : FrV D K p w S N (.slice (some ⟨b, o, none⟩) L c) f) : FrV D K p w S N (.slice (some ⟨b, o + n * K, none⟩) (f.len - n) (c - n)) (Fr.drop n f) := by
 obtain ⟨A', c', e, h1, h2⟩ := h
 injection e with e1 e2 e3
 subst e2 e3
 have hl := Fr.len_drop n f
 refine ⟨_, _, by rw [hl], by omega, fun h0 => ?_⟩
 obtain ⟨b', o', h3, h4, h5⟩ := h2 (by omega)
 rw [← e1] at h3
 injection h3 with h3
 injection h3 with e4 e5 _
 subst e4 e5
 exact ⟨b, _, rfl, h4, h5.drop n⟩
theorem FrV.none_ (A : Option Addr) (c : Nat) : FrV D K p w S N (.slice A 0 c) (.nil : Fr α) := ⟨A, c, rfl, Nat.zero_le _, fun h => absurd h (by simp [Fr.len])⟩
def AppGs (D : RdOf α) (e : TypeId) (K p : Nat) (base : Nat) (S N : Nat → Prop) (w : World) (v : Value) (f : Fr α) (v' : Value) (w' : World) : Prop :=
 OwnG D e K p w' base S N v' f ∧ w.grownBy w' v.ownBlock ∧ (v'.ownBlock = v.ownBlock ∨ v'.ownBlock = some w.heap.size)
theorem AppGs.below {v' : Value} {g : Fr α} (h : AppGs D e K p base S N w v g v' w') (hown : OwnG D e K p w base S N v f) (hb : base ≤ w.heap.size) : Below base w w' :=
 (Below.refl _ _).grown h.2.1 hb fun b e => (hown.lt b e).1
theorem run_append_gs {P : Program} (hD : StayD D) (hO : OneD D) {ts : TypeId} {z : Value} {bytes : Nat} (hu : P.underlying ts = some (.slice e))
  (hinfo : (P.info? e).map (fun i => (i.zero, i.size, i.bytes)) = some (some z, K, bytes)) (hz : z.cells.size = K) (hk : 0 < K) (w : World) (v : Value) (hown : OwnG D e K p w base S N v f) (u : Value) (hs : FrV D K p w S N u g)
  (hb : (f.len + g.len) * bytes ≤ 140737488355328) (hlen : f.len + g.len ≤ 140737488355328) (hbase : base ≤ w.heap.size) :
  ∃ v' w', (Builtin.append_ #[ts, ts] ts #[v, u]).run P w = .ok v' w' ∧ AppGs D e K p base S N w v (f.app g) v' w' := by
 obtain ⟨hS, hN, xs, h1, h2⟩ := hown
 have hown : OwnG D e K p w base S N v f := ⟨hS, hN, xs, h1, h2⟩
 obtain ⟨i, hi, hz0, hz1, hz2⟩ := info_parts hinfo
 obtain ⟨A, c, rfl, hlc, hsrc⟩ := hs
 rcases A with _ | ad
 ·have hl : g = .nil := by
   cases g with
   | nil => rfl
   | cons a k r =>
    obtain ⟨_, _, he, _⟩ := hsrc (by simp [Fr.len])
    cases he
  subst hl
  refine ⟨v, w, ?_, by rw [Fr.app_nil]; exact hown, World.grownBy.refl w _, .inl rfl⟩
  rcases h1.2 with ⟨rfl, _⟩ | ⟨b, cap, cur, rfl, _, _, hnc, _⟩
  ·simp [Builtin.append_, run_underlying hu, sizeOf, typeInfo, hi, Builtin.lenOf, Builtin.firstCells, Fr.len]
  ·simp [Builtin.append_, run_underlying hu, sizeOf, typeInfo, hi, Builtin.lenOf, Builtin.firstCells, hnc, storeCells, Fr.len]
 ·obtain ⟨ys, hy, hc⟩ : ∃ ys, rowG D K p w S N ys g ∧ ∀ j x, ys[j]? = some x → w.cell? (ad.add j) = some x := by
   by_cases h0 : 0 < g.len
   ·obtain ⟨b, o, he, _, hat⟩ := hsrc h0
    injection he with he
    subst he
    obtain ⟨ys, h3, h4⟩ := hat.row
    refine ⟨ys, h3, fun j x hj => ?_⟩
    have e1 : (⟨b, o, none⟩ : Addr).add j = ⟨b, o + j, none⟩ := by unfold Addr.add; split <;> simp_all
    rw [e1]
    exact h4 j x hj
   ·cases g with
    | nil => exact ⟨[], rfl, fun j x hj => by simp at hj⟩
    | cons => simp [Fr.len] at h0
  obtain ⟨v', w', hrun, k1, k2, _, k3⟩ := run_append_own_at (P := P) (w := w) base ts ts e i z K bytes hu hi hz0 hz1 hz2 hz hk v f.len xs h1 ad g.len c ys hy.len hc (hy.oneCell hO) (by unfold maxLen; omega) hb hbase
  exact ⟨v', w', hrun, hown.app hD h2 (by rw [Fr.len_app]; exact k1) k2 k3 hy, k2, k3⟩
theorem wp_append_gs {P : Program} (hD : StayD D) (hO : OneD D) {ts : TypeId} {z : Value} {bytes : Nat} (hu : P.underlying ts = some (.slice e))
  (hinfo : (P.info? e).map (fun i => (i.zero, i.size, i.bytes)) = some (some z, K, bytes)) (hz : z.cells.size = K) (hk : 0 < K) {o : Oper} {a : Act} {K' : Act → World → Prop} {Q : Exit → Act → World → Prop} (s x : Operand)
  (ho : o.op = .call { callee := .builtin .append, args := #[s, x], argTypes := #[ts, ts] }) (hty : o.type = ts)
  (hs : a.eval s = v) (hown : OwnG D e K p w base S N v f) {u : Value} (hx : a.eval x = u) (hs2 : FrV D K p w S N u g)
  (hb : (f.len + g.len) * bytes ≤ 140737488355328) (hlen : f.len + g.len ≤ 140737488355328) (hbase : base ≤ w.heap.size)
  (hK : ∀ v' w', AppGs D e K p base S N w v (f.app g) v' w' → K' (a.put o.dst v') w') : o.wp P a w K' Q := by
 obtain ⟨v', w', hrun, h2⟩ := run_append_gs hD hO hu hinfo hz hk w v hown u hs2 hb hlen hbase
 unfold Oper.wp execOp
 simp only [ho, hty, resolve, invoke, builtin, Sem.run_bind, Sem.run_pure, Result.andThen_ok, List.map_toArray, List.map_cons, List.map_nil, hs, hx, hrun]
 exact hK v' w' h2
theorem wpList_append_gs {P : Program} (hD : StayD D) (hO : OneD D) {ts : TypeId} {z : Value} {bytes : Nat} (hu : P.underlying ts = some (.slice e))
  (hinfo : (P.info? e).map (fun i => (i.zero, i.size, i.bytes)) = some (some z, K, bytes)) (hz : z.cells.size = K) (hk : 0 < K) {ops : Array Oper} {rest : List Oper} {o : Oper} {a : Act} {Q : Exit → Act → World → Prop} (hgd : o.guard = none) (s x : Operand)
  (ho : o.op = .call { callee := .builtin .append, args := #[s, x], argTypes := #[ts, ts] }) (hty : o.type = ts)
  (hs : a.eval s = v) (hown : OwnG D e K p w base S N v f) {u : Value} (hx : a.eval x = u) (hs2 : FrV D K p w S N u g)
  (hb : (f.len + g.len) * bytes ≤ 140737488355328) (hlen : f.len + g.len ≤ 140737488355328) (hbase : base ≤ w.heap.size)
  (hK : ∀ v' w', AppGs D e K p base S N w v (f.app g) v' w' → wpList P ops Q rest (a.put o.dst v') w') : wpList P ops Q (o :: rest) a w :=
 wpList_plain hgd fun _ hK' => wp_append_gs hD hO hu hinfo hz hk s x ho hty hs hown hx hs2 hb hlen hbase fun v' w' hp => hK' _ _ (hK v' w' hp)
end
end Go.Proofs.YtljjaikejfoanaaGreat
namespace Go.Proofs.YtljjaikejfoanaaGreat
open Go.RowKit
open Go.ChangeShapes Go.WideShapes Go.Deep
theorem bulk_one9 {H : Type} (d : DataW H) : 1 ≤ Rows.uptoBulk d := by
 cases d with
 | lit l => cases l <;> simp [Rows.uptoBulk]
 | nil => simp [Rows.uptoBulk]
 | ptr d => simp [Rows.uptoBulk]
 | slice elems spare => simp [Rows.uptoBulk]
 | agg parts => simp [Rows.uptoBulk]
 | iface t d => simp [Rows.uptoBulk]
 | map entries => simp [Rows.uptoBulk]
 | held h => simp [Rows.uptoBulk]
theorem add_bare9 (b o j : Nat) : (⟨b, o, none⟩ : Addr).add j = ⟨b, o + j, none⟩ := by unfold Addr.add; split <;> simp_all
theorem cellsNode : Tryz.prog.cellsOf 27 = 6 := by kernel_rfl
theorem cellsVal : Tryz.prog.cellsOf 24 = 3 := by kernel_rfl
theorem cellsStr9 : Tryz.prog.cellsOf 9 = 1 := by kernel_rfl
theorem cellsInt9 : Tryz.prog.cellsOf 3 = 1 := by kernel_rfl
theorem cellsU64 : Tryz.prog.cellsOf 22 = 1 := by kernel_rfl
theorem cellsNds : Tryz.prog.cellsOf 25 = 1 := by kernel_rfl
end Go.Proofs.YtljjaikejfoanaaGreat
namespace Go.Proofs.YtljjaikejfoanaaGreat
open Go.RowKit
structure SpD where
 name : List UInt8
 kind : Nat
 typ : Nat
 low : Nat
 high : Nat
 names : List (List UInt8)
 must : Bool
 most : Nat
theorem SpD.ext_ {a b : SpD} (h1 : a.name = b.name) (h2 : a.kind = b.kind) (h3 : a.typ = b.typ) (h4 : a.low = b.low) (h5 : a.high = b.high) (h6 : a.names = b.names) (h7 : a.must = b.must) (h8 : a.most = b.most) : a = b := by
 cases a; cases b; simp_all
instance : DecidableEq SpD := fun a b => decidable_of_iff (a.name = b.name ∧ a.kind = b.kind ∧ a.typ = b.typ ∧ a.low = b.low ∧ a.high = b.high ∧ a.names = b.names ∧ a.must = b.must ∧ a.most = b.most)
 ⟨fun ⟨h1, h2, h3, h4, h5, h6, h7, h8⟩ => SpD.ext_ h1 h2 h3 h4 h5 h6 h7 h8, fun h => by subst h; exact ⟨rfl, rfl, rfl, rfl, rfl, rfl, rfl, rfl⟩⟩
abbrev SpF := Fr SpD
abbrev Sp := SpD × SpF
def nQuantum : List UInt8 := [113, 117, 97, 110, 116, 117, 109]
def nRate : List UInt8 := [114, 97, 116, 101]
def nBurst : List UInt8 := [98, 117, 114, 115, 116]
def nLimit : List UInt8 := [108, 105, 109, 105, 116]
def nDepth : List UInt8 := [100, 101, 112, 116, 104]
def nShaped : List UInt8 := [115, 104, 97, 112, 101, 100]
def nLow : List UInt8 := [108, 111, 119]
def nHigh : List UInt8 := [104, 105, 103, 104]
def nClass : List UInt8 := [99, 108, 97, 115, 115]
def nUp : List UInt8 := [117, 112]
def nRule : List UInt8 := [114, 117, 108, 101]
def nDefault : List UInt8 := [100, 101, 102, 97, 117, 108, 116]
def nKind : List UInt8 := [107, 105, 110, 100]
def nSystem : List UInt8 := [115, 121, 115, 116, 101, 109]
def nPort : List UInt8 := [112, 111, 114, 116]
def nWait : List UInt8 := [119, 97, 105, 116]
def nEdge : List UInt8 := [101, 100, 103, 101]
def nCore : List UInt8 := [99, 111, 114, 101]
def nLab : List UInt8 := [108, 97, 98]
def numD (n : List UInt8) (t lo hi : Nat) : SpD := ⟨n, 1, t, lo, hi, [], true, 0⟩
def leafD (n : List UInt8) (t : Nat) (must : Bool) : SpD := ⟨n, 1, t, 0, 0, [], must, 0⟩
def listD (n : List UInt8) (most : Nat) : SpD := ⟨n, 3, 0, 0, 0, [], false, most⟩
def kindD : SpD := ⟨nKind, 1, 4, 0, 0, [nEdge, nCore, nLab], false, 0⟩
def waitD : SpD := ⟨nWait, 1, 1, 1, 1000, [], false, 0⟩
def rootD : SpD := ⟨[], 2, 0, 0, 0, [], false, 0⟩
def zeroD : SpD := ⟨[], 0, 0, 0, 0, [], false, 0⟩
def frOf : List Sp → SpF
 | [] => .nil
 | x :: l => .cons x.1 x.2 (frOf l)
def classL (v : Nat) : List Sp :=
 [(numD nQuantum 1 1500 100000, .nil), (numD nRate 2 0 1000000, .nil), (numD nBurst 1 1500 1000000, .nil)] ++ [(numD (if v < 3 then nLimit else nDepth) 1 1 64, .nil)] ++ (if 1 < v then [(leafD nShaped 3 true, .nil)] else [])
def ruleL : List Sp := [(numD nLow 1 0 65535, .nil), (numD nHigh 1 0 65535, .nil), (leafD nClass 6 true, .nil)]
def portL (v : Nat) : List Sp :=
 [(leafD nUp 3 false, .nil), (listD nClass 8, frOf (classL v)), (listD nRule 16, frOf ruleL), (leafD nDefault 6 true, .nil)] ++ (if 1 < v then [(kindD, .nil)] else [])
def rootL (v : Nat) : List Sp := [(leafD nSystem 5 false, .nil), (listD nPort 4, frOf (portL v))] ++ (if 2 < v then [(waitD, .nil)] else [])
def rootF (v : Nat) : SpF := frOf (rootL v)
def rootX (v : Int) : Sp × Nat := if v < 1 ∨ 3 < v then ((zeroD, .nil), 28) else ((rootD, rootF v.toNat), 0)
def findX (n : List UInt8) : SpF → Option Nat
 | .nil => none
 | .cons a _ r => if a.name = n then some 0 else (findX n r).map (· + 1)
def findI (n : List UInt8) (f : SpF) : Int := match findX n f with
 | none => -1
 | some i => (i : Int)
def downX : Sp → List (List UInt8) → Option Sp
 | x, [] => some x
 | x, n :: l => match findX n x.2 with
  | none => none
  | some i => match x.2.get? i with
   | none => none
   | some y => downX y l
theorem find_some {n : List UInt8} : ∀ {f : SpF} {i : Nat}, findX n f = some i → ∃ x, f.get? i = some x ∧ x.1.name = n ∧ ∀ j y, j < i → f.get? j = some y → y.1.name ≠ n := by
 intro f
 induction f with
 | nil => intro i h; cases h
 | cons a k r _ ih =>
  intro i h
  unfold findX at h
  by_cases e : a.name = n
  ·rw [if_pos e] at h
   injection h with h
   subst h
   exact ⟨(a, k), rfl, e, fun j y hj => by omega⟩
  ·rw [if_neg e] at h
   cases hr : findX n r with
   | none => rw [hr] at h; cases h
   | some m =>
    rw [hr] at h
    have h : m + 1 = i := by injection h
    subst h
    obtain ⟨x, h1, h2, h3⟩ := ih hr
    refine ⟨x, h1, h2, fun j y hj hy => ?_⟩
    cases j with
    | zero => injection hy with hy; subst hy; exact e
    | succ j => exact h3 j y (by omega) hy
theorem find_none {n : List UInt8} : ∀ {f : SpF}, findX n f = none → ∀ j y, f.get? j = some y → y.1.name ≠ n := by
 intro f
 induction f with
 | nil => intro _ j y h; cases h
 | cons a k r _ ih =>
  intro h j y hy
  unfold findX at h
  by_cases e : a.name = n
  ·rw [if_pos e] at h; cases h
  ·rw [if_neg e] at h
   cases hr : findX n r with
   | some m => rw [hr] at h; cases h
   | none =>
    cases j with
    | zero => injection hy with hy; subst hy; exact e
    | succ j => exact ih hr j y hy
theorem find_is {n : List UInt8} {f : SpF} {i : Nat} {x : Sp} (h1 : f.get? i = some x) (h2 : x.1.name = n) (h3 : ∀ j y, j < i → f.get? j = some y → y.1.name ≠ n) : findX n f = some i := by
 cases h : findX n f with
 | none => exact absurd h2 (find_none h i x h1)
 | some m =>
  obtain ⟨y, g1, g2, g3⟩ := find_some h
  rcases Nat.lt_trichotomy i m with hl | rfl | hl
  ·exact absurd h2 (g3 i x hl h1)
  ·rfl
  ·exact absurd g2 (h3 m y hl g1)
theorem find_no {n : List UInt8} {f : SpF} (h : ∀ j y, f.get? j = some y → y.1.name ≠ n) : findX n f = none := by
 cases hf : findX n f with
 | none => rfl
 | some m =>
  obtain ⟨y, g1, g2, _⟩ := find_some hf
  exact absurd g2 (h m y g1)
def inner : SpF → List Sp
 | .nil => []
 | .cons a k r => (a, k) :: (inner k ++ inner r)
theorem inner_get : ∀ {f : SpF} {i : Nat} {x : Sp}, f.get? i = some x → x ∈ inner f := by
 intro f
 induction f with
 | nil => intro i x h; cases h
 | cons a k r _ ih =>
  intro i x h
  cases i with
  | zero => injection h with h; subst h; simp [inner]
  | succ i => have := ih h; simp only [inner, List.mem_cons, List.mem_append]; exact .inr (.inr this)
end Go.Proofs.YtljjaikejfoanaaGreat
namespace Go.Proofs.YtljjaikejfoanaaGreat
def stepW (x : Nat) (c : UInt8) : Nat := (10 * x + c.toNat + 18446744073709551568) % 18446744073709551616
def w20 (s : List UInt8) : Nat := (s.take 20).foldl stepW 0
def smB (c : UInt8) : Bool := decide (97 ≤ c.toNat) && decide (c.toNat ≤ 122)
def nmB (c : UInt8) : Bool := smB c || (decide (48 ≤ c.toNat) && decide (c.toNat ≤ 57)) || c == 45
def identX (s : List UInt8) : Bool := match s with
 | [] => false
 | c :: r => smB c && r.all nmB && decide (r.length + 1 ≤ 12)
theorem sm_nm {c : UInt8} (h : smB c = true) : nmB c = true := by unfold nmB; rw [h]; rfl
theorem ident_len {s : List UInt8} (h : identX s = true) : 0 < s.length ∧ s.length ≤ 12 := by
 cases s with
 | nil => cases h
 | cons c r => simp [identX] at h; simp; omega
theorem ident_no {c : UInt8} (h : smB c = false) (s : List UInt8) : identX (c :: s) = false := by simp [identX, h]
end Go.Proofs.YtljjaikejfoanaaGreat
namespace Go.Proofs.YtljjaikejfoanaaGreat
open Go.RowKit
structure Vl where
 kind : Int
 num : Nat
 text : List UInt8
theorem Vl.ext_ {a b : Vl} (h1 : a.kind = b.kind) (h2 : a.num = b.num) (h3 : a.text = b.text) : a = b := by cases a; cases b; simp_all
instance : DecidableEq Vl := fun a b => decidable_of_iff (a.kind = b.kind ∧ a.num = b.num ∧ a.text = b.text) ⟨fun ⟨h1, h2, h3⟩ => Vl.ext_ h1 h2 h3, fun h => by subst h; exact ⟨rfl, rfl, rfl⟩⟩
def whichX : List (List UInt8) → List UInt8 → Option Nat
 | [], _ => none
 | x :: l, s => if x = s then some 0 else (whichX l s).map (· + 1)
def whichI (l : List (List UInt8)) (s : List UInt8) : Int := match whichX l s with
 | none => -1
 | some i => (i : Int)
theorem which_some {l : List (List UInt8)} {s : List UInt8} : ∀ {i : Nat}, whichX l s = some i → l[i]? = some s ∧ ∀ j y, j < i → l[j]? = some y → y ≠ s := by
 induction l with
 | nil => intro i h; cases h
 | cons x l ih =>
  intro i h
  unfold whichX at h
  by_cases e : x = s
  ·rw [if_pos e] at h
   injection h with h
   subst h e
   exact ⟨rfl, fun j y hj => by omega⟩
  ·rw [if_neg e] at h
   cases hr : whichX l s with
   | none => rw [hr] at h; cases h
   | some m =>
    rw [hr] at h
    have h : m + 1 = i := by injection h
    subst h
    obtain ⟨h1, h2⟩ := ih hr
    refine ⟨h1, fun j y hj hy => ?_⟩
    cases j with
    | zero => injection hy with hy; subst hy; exact e
    | succ j => exact h2 j y (by omega) hy
theorem which_none {l : List (List UInt8)} {s : List UInt8} (h : whichX l s = none) : ∀ (j : Nat) (y : List UInt8), l[j]? = some y → y ≠ s := by
 induction l with
 | nil => intro j y hy; simp at hy
 | cons x l ih =>
  intro j y hy
  unfold whichX at h
  by_cases e : x = s
  ·rw [if_pos e] at h; cases h
  ·rw [if_neg e] at h
   cases hr : whichX l s with
   | some m => rw [hr] at h; cases h
   | none =>
    cases j with
    | zero => injection hy with hy; subst hy; exact e
    | succ j => exact ih hr j y hy
theorem which_is {l : List (List UInt8)} {s : List UInt8} {i : Nat} (h1 : l[i]? = some s) (h2 : ∀ (j : Nat) (y : List UInt8), j < i → l[j]? = some y → y ≠ s) : whichX l s = some i := by
 cases h : whichX l s with
 | none => exact absurd rfl (which_none h i s h1)
 | some m =>
  obtain ⟨g1, g2⟩ := which_some h
  rcases Nat.lt_trichotomy i m with hl | rfl | hl
  ·exact absurd rfl (g2 i s hl h1)
  ·rfl
  ·exact absurd rfl (h2 m s hl g1)
theorem which_no {l : List (List UInt8)} {s : List UInt8} (h : ∀ (j : Nat) (y : List UInt8), l[j]? = some y → y ≠ s) : whichX l s = none := by
 cases hw : whichX l s with
 | none => rfl
 | some m => exact absurd rfl (h m s (which_some hw).1)
def rightX (a : SpD) (v : Vl) : Bool := decide (a.kind = 1) && decide (v.kind = (a.typ : Int)) && (
 if a.typ = 1 ∨ a.typ = 2 then decide (a.low ≤ v.num) && decide (v.num ≤ a.high) && decide (v.text = [])
 else if a.typ = 3 then decide (v.num < 2) && decide (v.text = [])
 else if a.typ = 4 then (whichX a.names v.text).isSome && decide (v.num = 0)
 else if a.typ = 5 ∨ a.typ = 6 then identX v.text && decide (v.num = 0)
 else false)
end Go.Proofs.YtljjaikejfoanaaGreat
namespace Go.Proofs.YtljjaikejfoanaaGreat
open Go.RowKit
abbrev Bad := Nat × List Stp
abbrev vlOf (a : NdD) : Vl := ⟨a.kind, a.num, a.text⟩
def leafB (d : SpD) (a : NdD) (k : NdF) : Bool := decide (a.key = []) && decide (k.len = 0) && rightX d (vlOf a)
def headX (d : SpD) (a : NdD) (k : NdF) (ahead : Nat) : Option Nat :=
 if d.kind = 1 then (if leafB d a k = true then none else some 23)
 else if d.kind = 3 then (if a.kind ≠ 0 ∨ identX a.key = false then some 23 else if d.most ≤ ahead then some 27 else none)
 else (if a.kind ≠ 0 ∨ a.key ≠ [] then some 23 else none)
def lackX : SpF → List Nat → Option Bad
 | .nil, _ => none
 | .cons d _ r, c => if d.must = true ∧ c.headD 0 = 0 then some (25, [(d.name, [])]) else lackX r c.tail
def bump (c : List Nat) (i : Nat) : List Nat := c.set i (c.getD i 0 + 1)
def zeros (s : SpF) : List Nat := List.replicate s.len 0
def scanF : NdF → SpF → List Nat → Option Bad
 | .nil, s, c => lackX s c
 | .cons a k r, s, c => match findX a.name s with
  | none => some (22, [stp a])
  | some i => match s.get? i with
   | none => none
   | some y => match headX y.1 a k (c.getD i 0) with
    | some e => some (e, [stp a])
    | none => match (if y.1.kind = 1 then none else scanF k y.2 (zeros y.2)) with
     | some b => some (b.1, stp a :: b.2)
     | none => scanF r s (bump c i)
def insideX (s : SpF) (f : NdF) : Option Bad := scanF f s (zeros s)
def kidX1 (y : Sp) (a : NdD) (k : NdF) (ahead : Nat) : Option Bad := match headX y.1 a k ahead with
 | some e => some (e, [])
 | none => if y.1.kind = 1 then none else insideX y.2 k
def under (a : NdD) : Option Bad → Option Bad
 | none => none
 | some b => some (b.1, stp a :: b.2)
theorem scan_cons {a : NdD} {k r : NdF} {s : SpF} {c : List Nat} {i : Nat} {y : Sp} (h1 : findX a.name s = some i) (h2 : s.get? i = some y) :
  scanF (.cons a k r) s c = match under a (kidX1 y a k (c.getD i 0)) with | some b => some b | none => scanF r s (bump c i) := by
 have e : scanF (.cons a k r) s c = match headX y.1 a k (c.getD i 0) with
    | some e => some (e, [stp a])
    | none => match (if y.1.kind = 1 then none else scanF k y.2 (zeros y.2)) with
     | some b => some (b.1, stp a :: b.2)
     | none => scanF r s (bump c i) := by
  rw [scanF.eq_def]; simp only [h1, h2]
 rw [e]
 unfold kidX1 insideX
 cases headX y.1 a k (c.getD i 0) with
 | some e => rfl
 | none =>
  simp only
  by_cases hk : y.1.kind = 1
  ·rw [if_pos hk]; rfl
  ·rw [if_neg hk]
   cases scanF k y.2 (zeros y.2) <;> rfl
theorem scan_name {a : NdD} {k r : NdF} {s : SpF} {c : List Nat} (h1 : findX a.name s = none) : scanF (.cons a k r) s c = some (22, [stp a]) := by
 rw [scanF.eq_def]; simp only [h1]
theorem scan_nil (s : SpF) (c : List Nat) : scanF .nil s c = lackX s c := by rw [scanF.eq_def]
theorem sp_get {n : List UInt8} {s : SpF} {i : Nat} (h : findX n s = some i) : ∃ y, s.get? i = some y ∧ y.1.name = n ∧ i < s.len := by
 obtain ⟨x, h1, h2, _⟩ := find_some h
 exact ⟨x, h1, h2, Fr.get_lt h1⟩
theorem bump_len (c : List Nat) (i : Nat) : (bump c i).length = c.length := by simp [bump]
theorem zeros_len (s : SpF) : (zeros s).length = s.len := by simp [zeros]
theorem zeros_get (s : SpF) (i : Nat) : (zeros s).getD i 0 = 0 := by
 unfold zeros
 rw [List.getD_eq_getElem?_getD, List.getElem?_replicate]
 split <;> rfl
theorem bump_get {c : List Nat} {i : Nat} (j : Nat) (h : i < c.length) : (bump c i).getD j 0 = if j = i then c.getD i 0 + 1 else c.getD j 0 := by
 unfold bump
 rw [List.getD_eq_getElem?_getD, List.getElem?_set]
 by_cases e : j = i
 ·subst e; simp [h]
 ·rw [if_neg (fun h' => e h'.symm), if_neg e, List.getD_eq_getElem?_getD]
def defS : Stp := (nDefault, [])
def clsS : Stp := (nClass, [])
def thereB (all : NdF) (y : Nd) : Bool := (gtF (nClass, y.1.text) all).isSome
def namedB (all : NdF) (o : Option Nd) : Bool := match o with
 | none => true
 | some y => thereB all y
def rulesX (all : NdF) : NdF → Option (List Stp)
 | .nil => none
 | .cons a k r => if a.name = nRule ∧ namedB all (gtF clsS k) = false then some [stp a, clsS] else rulesX all r
def portX (k : NdF) : Option (List Stp) := if namedB k (gtF defS k) = false then some [defS] else rulesX k k
def refsF : NdF → Option Bad
 | .nil => none
 | .cons a k r => if a.name = nPort then (match portX k with | some p => some (26, stp a :: p) | none => refsF r) else refsF r
def badO : Option Bad → Bad
 | none => (0, [])
 | some b => b
def RefsX (x : Nd) : Bad := badO (refsF x.2)
def rootB (x : Nd) : Bool := rgtX x && decide (x.1 = zeroT)
def CheckX (v : Int) (x : Nd) : Bad := if (rootX v).2 ≠ 0 then ((rootX v).2, []) else if rootB x = false then (1, []) else match insideX (rootX v).1.2 x.2 with
 | some b => b
 | none => RefsX x
def MayX (v : Int) (x : Nd) : Bool := decide ((CheckX v x).1 = 0)
theorem head_err {d : SpD} {a : NdD} {k : NdF} {n e : Nat} (h : headX d a k n = some e) : e = 23 ∨ e = 27 := by
 unfold headX at h
 repeat' split at h
 all_goals first | (injection h with h; omega) | cases h
theorem lack_err : ∀ {s : SpF} {c : List Nat} {b : Bad}, lackX s c = some b → b.1 = 25 ∧ b.2.length = 1 := by
 intro s
 induction s with
 | nil => intro c b h; cases h
 | cons d k r _ ih =>
  intro c b h
  unfold lackX at h
  split at h
  ·injection h with h; subst h; exact ⟨rfl, rfl⟩
  ·exact ih h
theorem scan_err : ∀ {f : NdF} {s : SpF} {c : List Nat} {b : Bad}, scanF f s c = some b → (b.1 = 22 ∨ b.1 = 23 ∨ b.1 = 25 ∨ b.1 = 27) ∧ b.2.length ≤ f.size + 1 := by
 intro f
 induction f with
 | nil =>
  intro s c b h
  rw [scan_nil] at h
  obtain ⟨h1, h2⟩ := lack_err h
  exact ⟨by omega, by omega⟩
 | cons a k r ihk ihr =>
  intro s c b h
  cases h1 : findX a.name s with
  | none => rw [scan_name h1] at h; injection h with h; subst h; exact ⟨.inl rfl, by simp⟩
  | some i =>
   obtain ⟨y, h2, _, _⟩ := sp_get h1
   rw [scan_cons h1 h2] at h
   cases hk : kidX1 y a k (c.getD i 0) with
   | none =>
    rw [hk] at h
    obtain ⟨g1, g2⟩ := ihr h
    exact ⟨g1, by simp only [Fr.size]; omega⟩
   | some q =>
    rw [hk] at h
    simp only [under] at h
    injection h with h
    subst h
    unfold kidX1 at hk
    cases hh : headX y.1 a k (c.getD i 0) with
    | some e =>
     rw [hh] at hk
     injection hk with hk
     subst hk
     have := head_err hh
     exact ⟨by simp only; omega, by simp⟩
    | none =>
     rw [hh] at hk
     simp only at hk
     split at hk
     ·cases hk
     ·obtain ⟨g1, g2⟩ := ihk hk
      exact ⟨g1, by simp only [Fr.size, List.length_cons]; omega⟩
theorem rules_len : ∀ {f all : NdF} {p : List Stp}, rulesX all f = some p → p.length = 2 := by
 intro f
 induction f with
 | nil => intro all p h; cases h
 | cons a k r _ ih =>
  intro all p h
  unfold rulesX at h
  split at h
  ·injection h with h; subst h; rfl
  ·exact ih h
theorem port_len {k : NdF} {p : List Stp} (h : portX k = some p) : p.length = 1 ∨ p.length = 2 := by
 unfold portX at h
 split at h
 ·injection h with h; subst h; exact .inl rfl
 ·exact .inr (rules_len h)
theorem refs_err : ∀ {f : NdF} {b : Bad}, refsF f = some b → b.1 = 26 ∧ b.2.length ≤ 3 := by
 intro f
 induction f with
 | nil => intro b h; cases h
 | cons a k r _ ih =>
  intro b h
  unfold refsF at h
  split at h
  ·cases hp : portX k with
   | none => rw [hp] at h; exact ih h
   | some p =>
    rw [hp] at h
    injection h with h
    subst h
    have := port_len hp
    exact ⟨rfl, by simp only [List.length_cons]; omega⟩
  ·exact ih h
theorem refs_zero {x : Nd} : (RefsX x).1 = 0 ↔ refsF x.2 = none := by
 unfold RefsX
 cases h : refsF x.2 with
 | none => simp [badO]
 | some b => have := (refs_err h).1; simp [badO]; omega
theorem check_zero {v : Int} {x : Nd} : (CheckX v x).1 = 0 ↔ (rootX v).2 = 0 ∧ rootB x = true ∧ insideX (rootX v).1.2 x.2 = none ∧ refsF x.2 = none := by
 unfold CheckX
 by_cases h1 : (rootX v).2 = 0
 ·rw [if_neg (by simp [h1])]
  cases h2 : rootB x with
  | false => simp
  | true =>
   rw [if_neg (by simp)]
   cases h3 : insideX (rootX v).1.2 x.2 with
   | none => simp [h1, refs_zero]
   | some b => have := (scan_err h3).1; simp [h1]; omega
 ·rw [if_pos h1]; simp [h1]
end Go.Proofs.YtljjaikejfoanaaGreat
namespace Go.Proofs.YtljjaikejfoanaaGreat
open Go.RowKit
def SpcD : RdOf SpD := fun w N cs a => ∃ nv kv d, cs = [.string (txt a.name), .int .i64 (a.kind : Int), .int .i64 (a.typ : Int), .int .u64 (a.low : Int), .int .u64 (a.high : Int), nv, .bool a.must, .int .i64 (a.most : Int), kv] ∧
 Vals w d nv (txts a.names) ∧ (0 < a.names.length → N d) ∧ kv.oneCell' = true
theorem txts_len (l : List (List UInt8)) : (txts l).length = l.length := by simp [txts]
theorem Vals.heap {w w' : World} {d : Nat} {v : Value} {xs : List Value} (h : Vals w d v xs) (hk : 0 < xs.length → w'.heap[d]? = w.heap[d]?) : Vals w' d v xs := by
 obtain ⟨A, c, rfl, h1, h2⟩ := h
 refine ⟨A, c, rfl, h1, fun h0 => ?_⟩
 obtain ⟨hlt, off, rfl, hc⟩ := h2 h0
 have hb := hk h0
 refine ⟨?_, off, rfl, fun j u hj => (World.cell?_of_block (w := w) (a := ⟨d, off + j, none⟩) hb).trans (hc j u hj)⟩
 rw [Array.getElem?_eq_getElem hlt] at hb
 exact (Array.getElem?_eq_some_iff.1 hb).1
theorem stay_spc : StayD SpcD := by
 intro w w' N N' cs a hk hN ⟨nv, kv, d, h1, h2, h3, h4⟩
 refine ⟨nv, kv, d, h1, h2.heap (fun h0 => hk d (h3 ?_)), fun h0 => hN d (h3 h0), h4⟩
 rwa [txts_len] at h0
theorem one_spc : OneD SpcD := by
 intro w N cs a ⟨nv, kv, d, h1, ⟨A, c, h2, _⟩, _, h4⟩ u hu
 subst h1 h2
 simp only [List.mem_cons, List.not_mem_nil, or_false] at hu
 rcases hu with rfl | rfl | rfl | rfl | rfl | rfl | rfl | rfl | rfl <;> first | rfl | exact h4
abbrev SpN (w : World) (S N : Nat → Prop) (cs : List Value) (x : Sp) : Prop := FrN SpcD 9 8 w S N cs x.1 x.2
theorem SpN.shape {w : World} {S N : Nat → Prop} {cs : List Value} {x : Sp} (h : SpN w S N cs x) :
  ∃ B m A c d, cs = [.string (txt x.1.name), .int .i64 (x.1.kind : Int), .int .i64 (x.1.typ : Int), .int .u64 (x.1.low : Int), .int .u64 (x.1.high : Int), .slice B x.1.names.length m, .bool x.1.must, .int .i64 (x.1.most : Int), .slice A x.2.len c] ∧
   Vals w d (.slice B x.1.names.length m) (txts x.1.names) ∧ (0 < x.1.names.length → N d) ∧ FrV SpcD 9 8 w S N (.slice A x.2.len c) x.2 := by
 obtain ⟨_, ⟨nv, kv, d, rfl, h2, h3, _⟩, v, h5, h6⟩ := h
 obtain ⟨A, c, rfl⟩ := h6.shape
 simp at h5
 subst h5
 obtain ⟨B, m, e⟩ := h2.shape
 rw [txts_len] at e
 subst e
 exact ⟨B, m, A, c, d, rfl, h2, h3, h6⟩
theorem SpN.make {w : World} {S N : Nat → Prop} {a : SpD} {k : SpF} {nv kv : Value} {d : Nat} (h1 : Vals w d nv (txts a.names)) (h2 : 0 < a.names.length → N d) (h3 : FrV SpcD 9 8 w S N kv k) :
  SpN w S N [.string (txt a.name), .int .i64 (a.kind : Int), .int .i64 (a.typ : Int), .int .u64 (a.low : Int), .int .u64 (a.high : Int), nv, .bool a.must, .int .i64 (a.most : Int), kv] (a, k) := by
 refine ⟨rfl, ⟨nv, kv, d, rfl, h1, h2, ?_⟩, kv, rfl, h3⟩
 obtain ⟨A, c, rfl⟩ := h3.shape
 rfl
def Fresh (base : Nat) (w : World) (g : Nat) : Prop := base ≤ g ∧ ∃ cs t, w.heap[g]? = some (.cells cs t (0, 0))
theorem Fresh.lt {base : Nat} {w : World} {g : Nat} (h : Fresh base w g) : g < w.heap.size := by
 obtain ⟨_, cs, t, h⟩ := h
 exact (Array.getElem?_eq_some_iff.1 h).1
theorem Fresh.below {base : Nat} {w w' : World} {g : Nat} (h : Fresh base w g) (hb : Below w.heap.size w w') : Fresh base w' g := by
 have hl := h.lt
 obtain ⟨h0, cs, t, h⟩ := h
 exact ⟨h0, cs, t, (hb.block g hl).trans h⟩
def NewSp (base : Nat) (w : World) (cs : List Value) (x : Sp) : Prop := ∃ S N, (∀ g, S g → Fresh base w g) ∧ (∀ g, N g → Fresh base w g ∧ ¬ S g) ∧ SpN w S N cs x
def SpP (x : Sp × Nat) (w : World) (r : Ending) (w' : World) : Prop := ∃ cs, r = .returned (.tuple #[.agg cs.toArray, .int .i64 (x.2 : Int)]) ∧ NewSp w.heap.size w' cs x.1 ∧ Below w.heap.size w w'
def AnsP (v : Value) (w : World) (r : Ending) (w' : World) : Prop := r = .returned v ∧ Below w.heap.size w w'
end Go.Proofs.YtljjaikejfoanaaGreat
namespace Go.Proofs.YtljjaikejfoanaaGreat
open Go.RowKit
theorem txt_get (l : List UInt8) (k : Nat) (h : k < l.length) (h' : k < (txt l).size) : (txt l)[k]'h' = l[k]'h := by
 show (txt l).data[k]'h' = l[k]
 simp [txt]
 rfl
end Go.Proofs.YtljjaikejfoanaaGreat
namespace Go.Proofs.YtljjaikejfoanaaGreat
open Go.RowKit
theorem zeroS : (Value.agg #[.string ⟨#[]⟩, .int .i64 0, .int .i64 0, .int .u64 0, .int .u64 0, .slice none 0 0, .bool false, .int .i64 0, .slice none 0 0]).cells.size = 9 := by kernel_rfl
def spC (a : SpD) (nv kv : Value) : List Value := [.string (txt a.name), .int .i64 (a.kind : Int), .int .i64 (a.typ : Int), .int .u64 (a.low : Int), .int .u64 (a.high : Int), nv, .bool a.must, .int .i64 (a.most : Int), kv]
theorem leaf_n {w : World} {S N : Nat → Prop} {a : SpD} (h : a.names = []) : SpN w S N (spC a (.slice none 0 0) (.slice none 0 0)) (a, .nil) :=
 SpN.make (d := 0) (by rw [h]; exact ⟨none, 0, rfl, Nat.le_refl _, fun h => absurd h (by simp [txts])⟩) (by rw [h]; intro h; simp at h) (FrV.empty _ _ _)
end Go.Proofs.YtljjaikejfoanaaGreat
namespace Go.Proofs.YtljjaikejfoanaaGreat
open Go.RowKit
def idL (s : List UInt8) (k : Nat) : Prop := (∀ c, 0 < k → s[0]? = some c → smB c = true) ∧ ∀ j c, j < k → s[j]? = some c → nmB c = true
theorem idL_all {s : List UInt8} (h : idL s s.length) : identX s = (!s.isEmpty && decide (s.length ≤ 12)) := by
 cases s with
 | nil => rfl
 | cons c r =>
  have h1 := h.1 c (by simp) rfl
  have h2 : r.all nmB = true := List.all_eq_true.2 (fun d hd => by
   obtain ⟨j, hj, rfl⟩ := List.getElem_of_mem hd
   exact h.2 (j + 1) _ (by simp; omega) (by rw [List.getElem?_cons_succ]; exact List.getElem?_eq_getElem hj))
  simp [identX, h1, h2]
theorem id_bad {s : List UInt8} {k : Nat} {c : UInt8} (hc : s[k]? = some c) (h : smB c = false) (h2 : k = 0 ∨ nmB c = false) : identX s = false := by
 cases s with
 | nil => rfl
 | cons d r =>
  cases k with
  | zero =>
   simp at hc
   subst hc
   simp [identX, h]
  | succ k =>
   have h3 : nmB c = false := by rcases h2 with h2 | h2; cases h2; exact h2
   have h4 : r.all nmB = false := List.all_eq_false.2 ⟨c, List.mem_of_getElem? (by simpa using hc), by rw [h3]; decide⟩
   simp [identX, h4]
theorem sm_cases (c : UInt8) : (smB c = true ∧ 97 ≤ (c.toNat : Int) ∧ (c.toNat : Int) ≤ 122) ∨ (smB c = false ∧ (¬ 97 ≤ (c.toNat : Int) ∨ (97 ≤ (c.toNat : Int) ∧ ¬ (c.toNat : Int) ≤ 122))) := by
 unfold smB
 by_cases h1 : 97 ≤ c.toNat
 ·by_cases h2 : c.toNat ≤ 122
  ·exact .inl ⟨by simp [h1, h2], by omega, by omega⟩
  ·exact .inr ⟨by simp [h2], .inr ⟨by omega, by omega⟩⟩
 ·exact .inr ⟨by simp [h1], .inl (by omega)⟩
theorem nm_cases {c : UInt8} (h : smB c = false) : (nmB c = true ∧ (((c.toNat : Int) == 45) = true ∨ (((c.toNat : Int) == 45) = false ∧ ¬ (c.toNat : Int) < 48 ∧ ¬ 57 < (c.toNat : Int)))) ∨
  (nmB c = false ∧ ((c.toNat : Int) == 45) = false ∧ ((c.toNat : Int) < 48 ∨ (¬ (c.toNat : Int) < 48 ∧ 57 < (c.toNat : Int)))) := by
 have e45 : c = 45 ↔ c.toNat = 45 := by
  rw [← UInt8.toNat_inj]
  rfl
 unfold nmB
 rw [h]
 by_cases h0 : c = 45
 ·have h45 := e45.1 h0
  exact .inl ⟨by simp [h0], .inl (by simp; omega)⟩
 ·have hn : (c == 45) = false := beq_eq_false_iff_ne.2 h0
  have hm : ((c.toNat : Int) == 45) = false := beq_eq_false_iff_ne.2 (fun e => h0 (e45.2 (by omega)))
  by_cases h1 : 48 ≤ c.toNat
  ·by_cases h2 : c.toNat ≤ 57
   ·exact .inl ⟨by simp [h1, h2], .inr ⟨hm, by omega, by omega⟩⟩
   ·exact .inr ⟨by simp [h2, hn], hm, .inr ⟨by omega, by omega⟩⟩
  ·exact .inr ⟨by simp [h1, hn], hm, .inl (by omega)⟩
end Go.Proofs.YtljjaikejfoanaaGreat
namespace Go.Proofs.YtljjaikejfoanaaGreat
open Go.RowKit
def VlOk (v : Vl) : Prop := -9223372036854775808 ≤ v.kind ∧ v.kind ≤ 9223372036854775807 ∧ v.num < 18446744073709551616 ∧ v.text.length ≤ 1048576
end Go.Proofs.YtljjaikejfoanaaGreat
namespace Go.Proofs.YtljjaikejfoanaaGreat
open Go.RowKit
structure OkD (a : NdD) : Prop where
 name : a.name.length ≤ 1048576
 key : a.key.length ≤ 1048576
 lo : -9223372036854775808 ≤ a.kind
 hi : a.kind ≤ 9223372036854775807
 num : a.num < 18446744073709551616
 text : a.text.length ≤ 1048576
theorem OkD.vl {a : NdD} (h : OkD a) : VlOk (vlOf a) := ⟨h.lo, h.hi, h.num, h.text⟩
def OkF : NdF → Prop
 | .nil => True
 | .cons a k r => OkD a ∧ OkF k ∧ OkF r
abbrev OkN (x : Nd) : Prop := OkD x.1 ∧ OkF x.2
theorem OkF.at {f : NdF} : ∀ {i : Nat} {y : Nd}, OkF f → f.get? i = some y → OkN y := by
 induction f with
 | nil => intro i y _ h; cases h
 | cons a k r _ ih =>
  intro i y hf h
  cases i with
  | zero => injection h with h; subst h; exact ⟨hf.1, hf.2.1⟩
  | succ i => exact ih hf.2.2 h
theorem OkF.of {f : NdF} : (∀ i y, f.get? i = some y → OkN y) → OkF f := by
 induction f with
 | nil => intro _; trivial
 | cons a k r _ ih => intro h; exact ⟨(h 0 _ rfl).1, (h 0 _ rfl).2, ih fun i y hy => h (i + 1) y hy⟩
theorem OkD.zero : OkD zeroT := ⟨by decide, by decide, by decide, by decide, by decide, by decide⟩
end Go.Proofs.YtljjaikejfoanaaGreat

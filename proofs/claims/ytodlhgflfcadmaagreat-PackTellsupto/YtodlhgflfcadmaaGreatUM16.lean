/- PakMem VadFst VadNam -/
import Derived.Test.YtodlhgflfcadmaaGreatUM15
import Derived.Shelf.RegionOpen
import Derived.OwnWalkIn
import Derived.LoopNIn
import Derived.LoopIn
set_option linter.unusedSimpArgs false
set_option linter.unusedVariables false
set_option maxRecDepth 100000
set_option maxHeartbeats 8000000
namespace Go.Proofs.YtodlhgflfcadmaaGreat
open Go.RowKit
section
variable {D : World → (Nat → Prop) → Value → List UInt8 → Prop} {e : TypeId} {w w' : World} {base : Nat} {v : Value} {f : Fo}
theorem OwnF.mono {base' : Nat} (h : OwnF D e w base' v f) (hD : Stays D) (hb : base ≤ base') : OwnF D e w base v f := by
 obtain ⟨xs, h1, h2⟩ := h
 exact ⟨xs, World.ownsRow.mono h1 hb, h2.kept hD (fun _ _ => rfl) (fun g hg => ⟨Nat.le_trans hb hg.1, hg.2⟩)⟩
theorem OwnF.shape (h : OwnF D e w base v f) : ∃ A c, v = .slice A f.len c := by
 obtain ⟨xs, h1, _⟩ := h
 rcases h1.2 with ⟨rfl, h0⟩ | ⟨g, cap, cur, rfl, _⟩
 ·exact ⟨none, 0, by rw [h0]⟩
 ·exact ⟨_, cap, rfl⟩
theorem OwnF.ne {g : Nat} {t : TypeId} {cs : Array Value} (h : OwnF D e w base v f) (hb : Blk w g t cs) (ht : t ≠ e) : v.ownBlock ≠ some g := by
 obtain ⟨xs, h1, _⟩ := h
 rcases h1.2 with ⟨rfl, _⟩ | ⟨g', cap, cur, rfl, _, hg, _⟩
 ·intro h; cases h
 ·intro h
  injection h with h
  subst h
  have := hg.symm.trans hb
  injection this with this
  injection this with _ h2
  exact ht h2.symm
theorem OwnF.setB (hD : Stays D) (h : OwnF D e w base v f) {p : Addr} (hp : p.block < base) (u : Value) : OwnF D e (w.setCell p u) base v f := by
 obtain ⟨xs, h1, h2⟩ := h
 refine ⟨xs, ownsRow_setCell_below h1 hp u, h2.kept hD (fun g hg => Below.heap_setCell _ _ _ _ (by have := hg.1; omega)) (fun g hg => ⟨hg.1, ?_, hg.2.2⟩)⟩
 have : (w.setCell p u).heap.size = w.heap.size := by simp [World.setCell]
 rw [this]
 exact hg.2.1
theorem rowOf.len_ {S : Nat → Prop} : ∀ {f : Fo} {xs : List Value}, rowOf D w S xs f → xs.length = f.len * 3 := by
 intro f
 induction f with
 | nil => intro xs h; rw [h.nil_]; simp [Fo.len]
 | cons t d k r _ ih =>
  intro xs h
  obtain ⟨a, b, c, ys, rfl, _, _, _, _, h5⟩ := h.cons_
  have := ih h5
  simp only [List.length_cons, Fo.len, this]
  omega
theorem rowOf.app_ {S : Nat → Prop} : ∀ {f g : Fo} {xs ys : List Value}, rowOf D w S xs f → rowOf D w S ys g → rowOf D w S (xs ++ ys) (f.app g) := by
 intro f
 induction f with
 | nil => intro g xs ys h h2; rw [h.nil_]; exact h2
 | cons t d k r _ ih =>
  intro g xs ys h h2
  obtain ⟨a, b, c, zs, rfl, h1, h3, h4, h5, h6⟩ := h.cons_
  exact ⟨h1, h3, h4, h5, ih h6 h2⟩
theorem rowOf.init_ {S : Nat → Prop} {t : Nat} {d : List UInt8} {k : Fo} : ∀ {f : Fo} {xs : List Value}, rowOf D w S xs (f.app (.cons t d k .nil)) → ∃ ys a b c, xs = ys ++ [a, b, c] ∧ rowOf D w S ys f := by
 intro f
 induction f with
 | nil =>
  intro xs h
  obtain ⟨a, b, c, ys, rfl, _, _, _, _, h5⟩ := h.cons_
  have h6 : rowOf D w S ys .nil := h5
  rw [h6.nil_]
  exact ⟨[], a, b, c, rfl, trivial⟩
 | cons t' d' k' r _ ih =>
  intro xs h
  obtain ⟨a, b, c, zs, rfl, h1, h3, h4, h5, h6⟩ := rowOf.cons_ (k := k') (r := r.app (.cons t d k .nil)) h
  obtain ⟨ys, x, y, z, rfl, h7⟩ := ih h6
  exact ⟨a :: b :: c :: ys, x, y, z, rfl, h1, h3, h4, h5, h7⟩
end
def set3o (w : World) (b o : Nat) (x0 x1 x2 : Value) : World := ((w.setCell ⟨b, o, none⟩ x0).setCell ⟨b, o + 1, none⟩ x1).setCell ⟨b, o + 2, none⟩ x2
theorem set3o_size (w : World) (b o : Nat) (x0 x1 x2 : Value) : (set3o w b o x0 x1 x2).heap.size = w.heap.size := by simp [set3o, World.setCell]
theorem set3o_far {w : World} {b o g : Nat} {x0 x1 x2 : Value} (h : g ≠ b) : (set3o w b o x0 x1 x2).heap[g]? = w.heap[g]? := by
 unfold set3o
 rw [Below.heap_setCell _ _ _ _ h, Below.heap_setCell _ _ _ _ h, Below.heap_setCell _ _ _ _ h]
theorem set_last {α : Type} (ys : List α) (a b c x y z : α) : (((ys ++ [a, b, c]).set ys.length x).set (ys.length + 1) y).set (ys.length + 2) z = ys ++ [x, y, z] := by
 induction ys with
 | nil => rfl
 | cons p ys ih => simp
theorem OwnF.last {D : World → (Nat → Prop) → Value → List UInt8 → Prop} (hD : Stays D) {e : TypeId} {w : World} {base g c n : Nat} {f : Fo} {t0 t : Nat} {d0 d : List UInt8} {k0 k : Fo} {dv kv : Value} (hn : n = f.len + 1)
  (h : OwnF D e w base (.slice (some ⟨g, 0, none⟩) n c) (f.app (.cons t0 d0 k0 .nil))) (ht : t < 18446744073709551616) (hd : D w (ItsI base w (.slice (some ⟨g, 0, none⟩) n c)) dv d) (hk : FV D w (ItsI base w (.slice (some ⟨g, 0, none⟩) n c)) kv k) :
  OwnF D e (set3o w g (f.len * 3) (.int .u64 (t : Int)) dv kv) base (.slice (some ⟨g, 0, none⟩) n c) (f.app (.cons t d k .nil)) := by
 subst hn
 obtain ⟨xs, h1, h2⟩ := h
 obtain ⟨ys, a, b, c', rfl, h3⟩ := h2.init_
 have hl := h3.len_
 have hlen : (f.app (.cons t0 d0 k0 .nil)).len = f.len + 1 := by rw [Fo.len_app]; rfl
 have hlen' : (f.app (.cons t d k .nil)).len = f.len + 1 := by rw [Fo.len_app]; rfl
 rw [hlen] at h1
 have s1 := (World.ownsRow.stored h1 (f.len * 3) (.int .u64 (t : Int))).1
 have s2 := (World.ownsRow.stored s1 (f.len * 3 + 1) dv).1
 have s3 := (World.ownsRow.stored s2 (f.len * 3 + 2) kv).1
 have e1 : ((((ys ++ [a, b, c']).set (f.len * 3) (.int .u64 (t : Int))).set (f.len * 3 + 1) dv).set (f.len * 3 + 2) kv) = ys ++ [.int .u64 (t : Int), dv, kv] := by rw [← hl]; exact set_last ys a b c' _ _ _
 rw [e1] at s3
 have hkeep : ∀ x, ItsI base w (.slice (some ⟨g, 0, none⟩) (f.len + 1) c) x → (set3o w g (f.len * 3) (.int .u64 (t : Int)) dv kv).heap[x]? = w.heap[x]? := fun x hx => set3o_far (fun e => hx.2.2 (by rw [e]; rfl))
 have hS : ∀ x, ItsI base w (.slice (some ⟨g, 0, none⟩) (f.len + 1) c) x → ItsI base (set3o w g (f.len * 3) (.int .u64 (t : Int)) dv kv) (.slice (some ⟨g, 0, none⟩) (f.len + 1) c) x := fun x hx => ⟨hx.1, by rw [set3o_size]; exact hx.2.1, hx.2.2⟩
 refine ⟨ys ++ [.int .u64 (t : Int), dv, kv], by rw [hlen']; exact s3, ?_⟩
 exact rowOf.snoc rfl ht (hD _ _ _ _ _ _ hkeep hS hd) (hk.kept hD hkeep hS) (h3.kept hD hkeep hS)
def ManyF (D : World → (Nat → Prop) → Value → List UInt8 → Prop) (e : TypeId) (w : World) (base : Nat) (v : Value) (f : Fo) (v' : Value) (w' : World) : Prop :=
 OwnF D e w' base v' f ∧ w.grownBy w' v.ownBlock ∧ (v'.ownBlock = v.ownBlock ∨ v'.ownBlock = some w.heap.size)
theorem ManyF.below {D : World → (Nat → Prop) → Value → List UInt8 → Prop} {e : TypeId} {w w' : World} {base : Nat} {v v' : Value} {f f0 : Fo} (h : ManyF D e w base v f v' w') (hown : OwnF D e w base v f0) (hb : base ≤ w.heap.size) : Below base w w' :=
 (Below.refl _ _).grown h.2.1 hb fun k e => (hown.lt k e).1
theorem run_append_many {P : Program} {D : World → (Nat → Prop) → Value → List UInt8 → Prop} (hD : Stays D) (hone : ∀ w S v d, D w S v d → v.oneCell' = true) {ts e : TypeId} {z : Value} {bytes : Nat} (hu : P.underlying ts = some (.slice e))
  (hinfo : (P.info? e).map (fun i => (i.zero, i.size, i.bytes)) = some (some z, 3, bytes)) (hz : z.cells.size = 3) (w : World) (base mid : Nat) (v u : Value) (f g : Fo) (hown : OwnF D e w base v f)
  (hu2 : OwnF D e w mid u g) (hm : ∀ k, v.ownBlock = some k → k < mid) (hbm : base ≤ mid)
  (hb : (f.len + g.len) * bytes ≤ 140737488355328) (hlen : f.len + g.len ≤ 140737488355328) (hbase : base ≤ w.heap.size) :
  ∃ v' w', (Builtin.append_ #[ts, ts] ts #[v, u]).run P w = .ok v' w' ∧ ManyF D e w base v (f.app g) v' w' := by
 obtain ⟨i, hi, hz0, hz1, hz2⟩ := info_parts hinfo
 obtain ⟨xs, h1, h2⟩ := hown
 obtain ⟨ys, g1, g2⟩ := hu2
 have hlt := fun k hk => World.ownsRow.lt h1 k hk
 have hone2 : ∀ {S : Nat → Prop} {g : Fo} {ys : List Value}, rowOf D w S ys g → ∀ u ∈ ys, u.oneCell' = true := by
  intro S g
  induction g with
  | nil => intro ys h u hu; rw [h.nil_] at hu; cases hu
  | cons t d k r _ ih =>
   intro ys h u hu
   obtain ⟨a, b, c, zs, rfl, k1, _, k3, k4, k5⟩ := h.cons_
   simp only [List.mem_cons] at hu
   rcases hu with rfl | rfl | rfl | hu
   ·rw [k1]; rfl
   ·exact hone _ _ _ _ k3
   ·obtain ⟨A, c', rfl, _⟩ := k4; rfl
   ·exact ih k5 u hu
 have hrow : ∀ x, ItsI mid w u x → ItsI base w v x := fun x hx => ⟨Nat.le_trans hbm hx.1, hx.2.1, fun e => by have := hm x e.symm; have := hx.1; omega⟩
 have g3 : rowOf D w (ItsI base w v) ys g := g2.kept hD (fun _ _ => rfl) hrow
 have hall := rowOf.app_ h2 g3
 rcases g1.2 with ⟨rfl, h0⟩ | ⟨gb, cap, cur, rfl, hgb, hg, hnc, hcm, hcs, htk⟩
 ·have hg0 : g = .nil := Fo.len_zero h0
  subst hg0
  refine ⟨v, w, ?_, ⟨xs, by rw [Fo.app_nil]; exact h1, by rw [Fo.app_nil]; exact h2⟩, World.grownBy.refl w _, .inl rfl⟩
  rcases h1.2 with ⟨rfl, _⟩ | ⟨gv, cap, cur, rfl, _, _, hnc, _⟩
  ·simp [Builtin.append_, run_underlying hu, sizeOf, typeInfo, hi, Builtin.lenOf, Builtin.firstCells]
  ·simp [Builtin.append_, run_underlying hu, sizeOf, typeInfo, hi, Builtin.lenOf, Builtin.firstCells, hnc, storeCells]
 ·have hyl : ys.length = g.len * 3 := g1.1
  obtain ⟨v', w', hrun, k1, k2, _, k3⟩ := run_append_own_at (P := P) (w := w) base ts ts e i z 3 bytes hu hi hz0 hz1 hz2 hz (by decide) v f.len xs h1
   ⟨gb, 0, none⟩ g.len cap ys hyl (fun j u hj => by
    have e1 : (⟨gb, 0, none⟩ : Addr).add j = ⟨gb, j, none⟩ := by unfold Addr.add; split <;> simp_all
    have hjl : j < ys.length := (List.getElem?_eq_some_iff.1 hj).1
    rw [e1, World.ownsRow.cellAt g1 j (by omega), hj]) (hone2 g3) (by unfold maxLen; omega) hb hbase
  refine ⟨v', w', hrun, ⟨xs ++ ys, by rw [Fo.len_app]; exact k1, ?_⟩, k2, k3⟩
  refine hall.kept hD (fun g' hg' => k2.block g' hg'.2.1 hg'.2.2) (fun g' hg' => ⟨hg'.1, Nat.lt_of_lt_of_le hg'.2.1 k2.size, ?_⟩)
  rcases k3 with h | h
  ·rw [h]; exact hg'.2.2
  ·rw [h]; intro h'; injection h' with h'; have := hg'.2.1; omega
theorem wp_append_many {P : Program} {D : World → (Nat → Prop) → Value → List UInt8 → Prop} (hD : Stays D) (hone : ∀ w S v d, D w S v d → v.oneCell' = true) {ts e : TypeId} {z : Value} {bytes : Nat} (hu : P.underlying ts = some (.slice e))
  (hinfo : (P.info? e).map (fun i => (i.zero, i.size, i.bytes)) = some (some z, 3, bytes)) (hz : z.cells.size = 3) {w : World} {o : Oper} {a : Act} {K : Act → World → Prop} {Q : Exit → Act → World → Prop} (s x : Operand)
  (ho : o.op = .call { callee := .builtin .append, args := #[s, x], argTypes := #[ts, ts] }) (hty : o.type = ts)
  (base mid : Nat) (v u : Value) (f g : Fo) (hs : a.eval s = v) (hown : OwnF D e w base v f) (hx : a.eval x = u) (hu2 : OwnF D e w mid u g) (hm : ∀ k, v.ownBlock = some k → k < mid) (hbm : base ≤ mid)
  (hb : (f.len + g.len) * bytes ≤ 140737488355328) (hlen : f.len + g.len ≤ 140737488355328) (hbase : base ≤ w.heap.size)
  (hK : ∀ v' w', ManyF D e w base v (f.app g) v' w' → K (a.put o.dst v') w') : o.wp P a w K Q := by
 obtain ⟨v', w', hrun, h2⟩ := run_append_many hD hone hu hinfo hz w base mid v u f g hown hu2 hm hbm hb hlen hbase
 unfold Oper.wp execOp
 simp only [ho, hty, resolve, invoke, builtin, Sem.run_bind, Sem.run_pure, Result.andThen_ok, List.map_toArray, List.map_cons, List.map_nil, hs, hx, hrun]
 exact hK v' w' h2
theorem wpList_append_many {P : Program} {D : World → (Nat → Prop) → Value → List UInt8 → Prop} (hD : Stays D) (hone : ∀ w S v d, D w S v d → v.oneCell' = true) {ts e : TypeId} {z : Value} {bytes : Nat} (hu : P.underlying ts = some (.slice e))
  (hinfo : (P.info? e).map (fun i => (i.zero, i.size, i.bytes)) = some (some z, 3, bytes)) (hz : z.cells.size = 3) {w : World} {ops : Array Oper} {rest : List Oper} {o : Oper} {a : Act} {Q : Exit → Act → World → Prop} (hgd : o.guard = none) (s x : Operand)
  (ho : o.op = .call { callee := .builtin .append, args := #[s, x], argTypes := #[ts, ts] }) (hty : o.type = ts)
  (base mid : Nat) (v u : Value) (f g : Fo) (hs : a.eval s = v) (hown : OwnF D e w base v f) (hx : a.eval x = u) (hu2 : OwnF D e w mid u g) (hm : ∀ k, v.ownBlock = some k → k < mid) (hbm : base ≤ mid)
  (hb : (f.len + g.len) * bytes ≤ 140737488355328) (hlen : f.len + g.len ≤ 140737488355328) (hbase : base ≤ w.heap.size)
  (hK : ∀ v' w', ManyF D e w base v (f.app g) v' w' → wpList P ops Q rest (a.put o.dst v') w') : wpList P ops Q (o :: rest) a w :=
 wpList_plain hgd fun _ hK' => wp_append_many hD hone hu hinfo hz s x ho hty base mid v u f g hs hown hx hu2 hm hbm hb hlen hbase fun v' w' hp => hK' _ _ (hK v' w' hp)
section
open Go.RowKit Go.Shelf
attribute [local go_sem] Oper.semAt_some
section
variable {W W' w : World} {row : Option Nat} {B : Nat}
theorem Blk.obj {g t : Nat} {cs : Array Value} (h : Blk W g t cs) (hg : W.grownBy W' row) (hr : ∀ r, row = some r → ∃ o : Obj, W.heap[r]? = some o ∧ o.isCells = false) : Blk W' g t cs := (grownBy_keeps_cells hg hr h rfl).trans h
theorem below_obj (h : Below B w W) (hg : W.grownBy W' row) (hr : ∀ r, row = some r → B ≤ r) (hB : B ≤ w.heap.size) : Below B w W' :=
 h.trans ⟨hg.os, hg.tape, hg.output, hg.size, fun k hk => hg.block k (by have := h.size; omega) (fun e => by have := hr k e.symm; omega)⟩
end
def EncP (b : Bad) (B : Nat) (args : Array Value) (W : World) : Prop := ∃ v, args = #[.agg #[.int .i64 (b.1 : Int), v]] ∧ OwnS B W v b.2
def EncO (o : Option Bad) (B : Nat) (args : Array Value) (W : World) : Prop := ∃ b, o = some b ∧ EncP b B args W
def PrbS (g : Nat) (lb : Array Value) (o : Option Bad) (w : World) : Prop := SeqOne Tryz.prog g lb (EncO o) o.isSome w
theorem EncP.mono {b : Bad} {B B' : Nat} {args : Array Value} {W : World} (h : EncP b B args W) (hb : B' ≤ B) : EncP b B' args W := by
 obtain ⟨v, h1, h2⟩ := h; exact ⟨v, h1, h2.mono hb⟩
theorem EncO.mono {o : Option Bad} {B B' : Nat} {args : Array Value} {W : World} (h : EncO o B args W) (hb : B' ≤ B) : EncO o B' args W := by
 obtain ⟨b, h1, h2⟩ := h; exact ⟨b, h1, h2.mono hb⟩
theorem EncO.size {o : Option Bad} {B : Nat} {args : Array Value} {W : World} (h : EncO o B args W) : args.size = 1 := by
 obtain ⟨b, _, v, rfl, _⟩ := h; rfl
theorem SeqOne.later {P : Program} {g : Nat} {lb : Array Value} {Enc : Nat → Array Value → World → Prop} {has : Bool} {w w' : World} (h : SeqOne P g lb Enc has w) (hb : Below w.heap.size w w') : SeqOne P g lb Enc has w' :=
 fun l Jx W hW => h l Jx W (hb.trans (hW.mono hb.size))
def FirstP (b : Bad) (w : World) (r : Ending) (w' : World) : Prop := ∃ v, r = .returned (.tuple #[.int .i64 (b.1 : Int), v]) ∧ WayV w'.heap.size w' v b.2 ∧ Below w.heap.size w w'
def FstX (o : Option Bad) (w : World) (c : Code) (W : World) : Prop := c = .ret ∧ ∃ b v, o = some b ∧ Blk W w.heap.size 31 #[.int .i64 (b.1 : Int)] ∧ Blk W (w.heap.size + 1) 50 #[v] ∧ OwnS (w.heap.size + 2) W v b.2 ∧ Below w.heap.size w W
def FstA (o : Option Bad) (f : Value) (w : World) (a : Act) (W : World) : Prop := ∃ (b : Bad) (A : Option Addr) (c Bx : Nat), o = some b ∧ Blk W Bx 92 #[.int .i64 (b.1 : Int), .slice A b.2.length c] ∧ OwnS (w.heap.size + 2) W (.slice A b.2.length c) b.2 ∧
 Blk W w.heap.size 31 #[.int .i64 0] ∧ Blk W (w.heap.size + 1) 50 #[.slice none 0 0] ∧ w.heap.size + 2 ≤ Bx ∧ Below w.heap.size w W ∧
 a = { tmps := #[f, undef, .pointer (some ⟨w.heap.size, 0, none⟩), .pointer (some ⟨w.heap.size + 1, 0, none⟩), .pointer (some ⟨Bx, 0, none⟩), f, .agg #[.int .i64 (b.1 : Int), .slice A b.2.length c], undef, undef, undef, undef], defers := [] }
theorem fstX_own (o : Option Bad) (w : World) (c : Code) : OwnFrom (w.heap.size + 2) (fun (_ : Unit) W => FstX o w c W) := by
 rintro s X Y row ⟨h1, b, v, h2, h3, h4, h5, h6⟩ hg hr
 have hc : ∀ r, row = some r → ∃ o : Obj, X.heap[r]? = some o ∧ o.isCells = false := fun r e => (hr r e).2
 exact ⟨h1, b, v, h2, h3.obj hg hc, h4.obj hg hc, h5.obj hg hc, below_obj h6 hg (fun r e => by have := (hr r e).1; omega) (Nat.le_refl _)⟩
theorem fstA_own (o : Option Bad) (f : Value) (w : World) (a : Act) : OwnFrom (w.heap.size + 2) (fun (_ : Unit) W => FstA o f w a W) := by
 rintro s X Y row ⟨b, A, c, Bx, h1, h2, h3, h4, h5, h6, h7, h8⟩ hg hr
 have hc : ∀ r, row = some r → ∃ o : Obj, X.heap[r]? = some o ∧ o.isCells = false := fun r e => (hr r e).2
 exact ⟨b, A, c, Bx, h1, h2.obj hg hc, h3.obj hg hc, h4.obj hg hc, h5.obj hg hc, h6, below_obj h7 hg (fun r e => by have := (hr r e).1; omega) (Nat.le_refl _), h8⟩
theorem results_fst {tmps : Array Value} {W : World} {B : Nat} {e : Int} {v : Value} (h2 : tmps.getD 2 undef = .pointer (some ⟨B, 0, none⟩)) (h3 : tmps.getD 3 undef = .pointer (some ⟨B + 1, 0, none⟩))
  (q0 : Blk W B 31 #[.int .i64 e]) (q1 : Blk W (B + 1) 50 #[v]) :
  (results Tryz.f29 tmps).run Tryz.prog W = .ok (.tuple #[.int .i64 e, v]) W := by
 have c0 := (q0.cell 0).trans rfl
 have c1 := (q1.cell 0).trans rfl
 have g2 : tmps[2]?.getD undef = .pointer (some ⟨B, 0, none⟩) := by simpa using h2
 have g3 : tmps[3]?.getD undef = .pointer (some ⟨B + 1, 0, none⟩) := by simpa using h3
 simp [results, Tryz.f29, go_sem, g2, g3, c0, c1]
theorem vfirst_any (g : Nat) (lb : Array Value) (o : Option Bad) (w : World) (eg : ∀ args w, (callFunc g args).run Tryz.prog w = .ok (.enter g args) w) (hseq : PrbS g lb o w) :
  Calls Tryz.prog 29 #[.func (.func g) #[] lb] w (FirstP (badO o) w) := by
 refine (callsIn_wide (n := 9)).1 ?_
 refine callsIn_of_wp_marks Tryz.func29 rfl trivial ?_ rfl
 simp only [Tryz.ntmps29, List.size_toArray, List.length_cons, List.length_nil, Nat.reduceAdd, Nat.reduceSub, Array.replicate_succ, Array.replicate_zero, List.push_toArray, List.append_toArray, List.nil_append, List.cons_append]
 gi_wp2
 obtain ⟨W2, hW2⟩ : ∃ W2, W2 = (w.alloc (.cells #[.int .i64 0] 31)).alloc (.cells #[.slice none 0 0] 50) := ⟨_, rfl⟩
 rw [← hW2]
 have hs2 : W2.heap.size = w.heap.size + 2 := by rw [hW2]; simp
 have hb2 : Below w.heap.size w W2 := by rw [hW2]; exact bAl.alloc (by simp) _
 have b0 : Blk W2 w.heap.size 31 #[.int .i64 0] := by rw [hW2]; exact (Blk.new w _ _).alloc _
 have b1 : Blk W2 (w.heap.size + 1) 50 #[.slice none 0 0] := by rw [hW2]; exact Blk.newA (by simp) _ _
 have HB2 := hHd hb2
 have HS2 := hHd hs2
 have H0 := hHd (And.intro b0 b1)
 refine wpIn_range_one (by decide) rfl eg (hseq.later hb2) (Below.refl _ _) (fun B args W h => h.size) (fun B B' args W hb h => h.mono hb) (FstX o w) (by rw [hs2]; exact fstX_own o w) (FstA o (.func (.func g) #[] lb) w) (by rw [hs2]; exact fstA_own o _ w) ?assign ?body ?done ?stop
 all_goals clear hW2 hs2 hb2 b0 b1 hseq
 case assign =>
  rintro l args W K hbW ⟨b, ho, v, rfl, hv⟩ hK
  rw [HS2.out] at hv
  obtain ⟨A, c, rfl⟩ := hv.shape
  gi_wp2
  have hal : Below W2.heap.size W (W.alloc (.cells #[.int .i64 (b.1 : Int), .slice A b.2.length c] 92)) := (Below.refl _ _).alloc hbW.size _
  refine hK _ _ ((KeepsOthers.alloc _ _).from _) ⟨b, A, c, W.heap.size, ho, Blk.new _ _ _, hv.below bAl, ?_, ?_, ?_, ?_, rfl⟩
  ·exact ((H0.out.1.below hbW H0.out.1.lt).alloc _)
  ·exact ((H0.out.2.below hbW H0.out.2.lt).alloc _)
  ·have := hbW.size; have := HS2.out; omega
  ·exact HB2.out.trans ((hbW.trans hal).mono HB2.out.size)
 case body =>
  rintro l a' W hl ⟨b, A, c, Bx, h1, h2, h3, h4, h5, h6, h7, rfl⟩
  have hmix : Tryz.prog.follows .mixedOrders = true := by kernel_rfl
  have q0 := (h2.cell 0).trans rfl
  have q1 := (h2.cell 1).trans rfl
  have c0 := (h4.cell 0).trans rfl
  have c1 := (h5.cell 0).trans rfl
  have f0 := h4.frozen 0
  have f1 := h5.frozen 0
  obtain ⟨W5, hW5⟩ : ∃ W5, W5 = (((W.setCell ⟨w.heap.size, 0, none⟩ (.int .i64 (b.1 : Int))).setCell ⟨w.heap.size + 1, 0, none⟩ (.slice A b.2.length c)).drew) := ⟨_, rfl⟩
  have HEND : Hid (leftO W2.heap.size (FstX o w) W .ret { tmps := #[], defers := [] } W5) := hHd (by
   have e0 : Blk W5 w.heap.size 31 #[.int .i64 (b.1 : Int)] := by
    rw [hW5]
    have h := (h4.set_ 0 (.int .i64 (b.1 : Int))).far (p := ⟨w.heap.size + 1, 0, none⟩) (by show w.heap.size ≠ w.heap.size + 1; omega) (.slice A b.2.length c)
    simp only [List.setIfInBounds_toArray, List.set_cons_zero] at h
    exact h
   have e1 : Blk W5 (w.heap.size + 1) 50 #[.slice A b.2.length c] := by
    rw [hW5]
    have h := (h5.far (p := ⟨w.heap.size, 0, none⟩) (by show w.heap.size + 1 ≠ w.heap.size; omega) (.int .i64 (b.1 : Int))).set_ 0 (.slice A b.2.length c)
    simp only [List.setIfInBounds_toArray, List.set_cons_zero] at h
    exact h
   have e2 : OwnS (w.heap.size + 2) W5 (.slice A b.2.length c) b.2 := by
    have hlt := fun k hk => (h3.lt k hk).1
    rw [hW5]
    have g1 := OwnK.grown h3 (grown_setAny W w.heap.size 0 (.int .i64 (b.1 : Int))) (.inr fun e => by have := hlt _ e; omega)
    have g2 := OwnK.grown g1 (grown_setAny _ (w.heap.size + 1) 0 (.slice A b.2.length c)) (.inr fun e => by have := hlt _ e; omega)
    exact OwnK.below g2 (Below.refl _ _).drew
   refine ⟨?_, rfl, b, _, h1, e0, e1, e2, ?_⟩
   ·rw [hW5]; exact (((KeepsOthers.setCell _ _ _).trans (KeepsOthers.setCell _ _ _)).trans (KeepsOthers.drew _)).from _
   ·rw [hW5]; exact h7.trans ((((Below.refl _ _).setCell (p := ⟨w.heap.size, 0, none⟩) (Nat.le_refl _) _).setCell (p := ⟨w.heap.size + 1, 0, none⟩) (Nat.le_succ _) _).drew))
  clear h1 h2 h3 h4 h5 h6 h7
  gi_wp2
  gi_region_with_o (fail)
  all_goals gi_wp2
  all_goals (rw [hW5] at HEND; exact HEND.out)
 case done =>
  intro hh D W hD hbW hK
  have ho : o = none := by cases o <;> simp_all
  have h4 := H0.out.1.below hbW H0.out.1.lt
  have h5 := H0.out.2.below hbW H0.out.2.lt
  have c0 := (h4.cell 0).trans rfl
  have c1 := (h5.cell 0).trans rfl
  have f0 := h4.frozen 0
  have f1 := h5.frozen 0
  have hlt4 := h4.lt
  have hDn : w.heap.size + 2 ≤ D := by have := HS2.out; omega
  obtain ⟨W5, hW5⟩ : ∃ W5, W5 = (W.setCell ⟨w.heap.size, 0, none⟩ (.int .i64 0)).setCell ⟨w.heap.size + 1, 0, none⟩ (.slice none 0 0) := ⟨_, rfl⟩
  have e0 : Blk W5 w.heap.size 31 #[.int .i64 0] := by
   rw [hW5]
   have h := (h4.set_ 0 (.int .i64 0)).far (p := ⟨w.heap.size + 1, 0, none⟩) (by show w.heap.size ≠ w.heap.size + 1; omega) (.slice none 0 0)
   simpa using h
  have e1 : Blk W5 (w.heap.size + 1) 50 #[.slice none 0 0] := by
   rw [hW5]
   have h := (h5.far (p := ⟨w.heap.size, 0, none⟩) (by show w.heap.size + 1 ≠ w.heap.size; omega) (.int .i64 0)).set_ 0 (.slice none 0 0)
   simpa using h
  have eD : W5.heap[D]? = some (.deferred (some [])) := by
   rw [hW5, Below.heap_setCell _ _ _ _ (by show D ≠ w.heap.size + 1; omega), Below.heap_setCell _ _ _ _ (by show D ≠ w.heap.size; omega)]
   exact hK
  have hW5b : Below w.heap.size w W5 := by
   rw [hW5]
   exact (HB2.out.trans (hbW.mono HB2.out.size)).trans (((Below.refl _ _).setCell (p := ⟨w.heap.size, 0, none⟩) (Nat.le_refl _) _).setCell (p := ⟨w.heap.size + 1, 0, none⟩) (Nat.le_succ _) _)
  have HEND := hHd (And.intro e0 (And.intro e1 (And.intro eD hW5b)))
  have HW5 := hHd hW5
  have HO := hHd ho
  have HDN := hHd hDn
  clear h4 h5 hlt4 hDn e0 e1 eD hW5b hW5 ho hh hbW
  gi_wp2
  rw [← HW5.out]
  refine ⟨by simp, .inl ⟨_, _, rfl, run_takeDeferred HEND.out.2.2.1, ?_⟩⟩
  have hob : ∀ {g t : Nat} {cs : Array Value}, Blk W5 g t cs → Blk (W5.putObj D (.deferred none)) g t cs := fun h => h.obj (row := some D) (grownBy_putObj' W5 D _) (fun r e => by cases e; exact ⟨_, HEND.out.2.2.1, rfl⟩)
  refine ⟨_, results_fst (B := w.heap.size) rfl rfl (hob HEND.out.1) (hob HEND.out.2.1), .slice none 0 0, by rw [HO.out]; rfl, ?_, ?_⟩
  ·rw [HO.out]; exact WayV.nil _ _ _ _
  ·exact HEND.out.2.2.2.trans (below_put _ _ _ (by have := HDN.out; omega))
 case stop =>
  rintro hh D c W hD ⟨rfl, b, v, h2, h3, h4, h5, h6⟩ hK
  have hDn : w.heap.size + 2 ≤ D := by have := HS2.out; omega
  have hob : ∀ {g t : Nat} {cs : Array Value}, Blk W g t cs → Blk (W.putObj D (.deferred none)) g t cs := fun h => h.obj (row := some D) (grownBy_putObj' W D _) (fun r e => by cases e; exact ⟨_, hK, rfl⟩)
  gi_wp2
  refine ⟨by simp, .inl ⟨_, _, rfl, run_takeDeferred hK, ?_⟩⟩
  refine ⟨_, results_fst (B := w.heap.size) rfl rfl (hob h3) (hob h4), v, by rw [h2]; rfl, ?_, ?_⟩
  ·rw [h2]
   exact (h5.obj (row := some D) (grownBy_putObj' W D _) (fun r e => by cases e; exact ⟨_, hK, rfl⟩)).way
  ·exact h6.trans (below_put _ _ _ (by omega))
end
section
attribute [local go_sem] Oper.semAt_some
def kidsOf (nm : List UInt8) : NdF → List Nd
 | .nil => []
 | .cons a k r => if a.name = nm then (a, k) :: kidsOf nm r else kidsOf nm r
theorem kidsOf_drop {nm : List UInt8} {f : NdF} {i : Nat} {a : NdD} {k : NdF} (h : f.get? i = some (a, k)) : kidsOf nm (Fr.drop i f) = if a.name = nm then (a, k) :: kidsOf nm (Fr.drop (i + 1) f) else kidsOf nm (Fr.drop (i + 1) f) := by
 rw [(Fr.get_drop h).1]; rfl
theorem kidsOf_end {nm : List UInt8} {f : NdF} {i : Nat} (h : f.len ≤ i) : kidsOf nm (Fr.drop i f) = [] := by
 have e : Fr.drop i f = .nil := by
  cases hd : Fr.drop i f with
  | nil => rfl
  | cons a k r =>
   have := Fr.len_drop i f
   rw [hd] at this
   simp only [Fr.len] at this
   omega
 rw [e]; rfl
theorem kidsOf_mem {nm : List UInt8} {y : Nd} : ∀ {f : NdF}, y ∈ kidsOf nm f → ∃ i, f.get? i = some y ∧ y.1.name = nm := by
 intro f
 induction f with
 | nil => intro h; cases h
 | cons a k r _ ih =>
  intro h
  unfold kidsOf at h
  split at h
  ·rename_i hn
   rcases List.mem_cons.1 h with rfl | h
   ·exact ⟨0, rfl, hn⟩
   ·obtain ⟨i, h1, h2⟩ := ih h; exact ⟨i + 1, h1, h2⟩
  ·obtain ⟨i, h1, h2⟩ := ih h; exact ⟨i + 1, h1, h2⟩
def EncN (b : Nat) (B : Nat) (x : Nd) (args : Array Value) (W : World) : Prop := ∃ cs, args = #[.agg cs.toArray] ∧ LieB b W cs x
theorem KeepN.at {N : Nat → Prop} {m : Nat} {A B : World} (h : KeepN N m A B) {k : Nat} (hk : N k) (hlt : k < A.heap.size) : B.heap[k]? = A.heap[k]? := h.block k hlt (.inl hk)
theorem KeepN.blk {N : Nat → Prop} {m : Nat} {A B : World} (h : KeepN N m A B) {g t : Nat} {cs : Array Value} (hg : Blk A g t cs) (hk : N g) : Blk B g t cs := (h.at hk hg.lt).trans hg
theorem KeepN.blkm {N : Nat → Prop} {m : Nat} {A B : World} (h : KeepN N m A B) {g t : Nat} {cs : Array Value} (hg : Blk A g t cs) (hk : m ≤ g) : Blk B g t cs := (h.block g hg.lt (.inr hk)).trans hg
theorem KeepN.lie {N : Nat → Prop} {m b : Nat} {A B : World} (h : KeepN N m A B) {cs : List Value} {x : Nd} (hx : LieB b A cs x) (hk : ∀ k, k < b → N k) (hb : b ≤ A.heap.size) : LieB b B cs x :=
 hx.keep (fun g hg => h.at (hk g hg) (by omega)) (Nat.le_refl _)
theorem vnamed_any (a : NdD) (u : Value) (nm : List UInt8) (w : World) :
  Calls Tryz.prog 87 #[.agg (cN a u), .string (txt nm)] w fun r w' => r = .returned (.func (.func 108) #[] #[.pointer (some ⟨w.heap.size, 0, none⟩), .pointer (some ⟨w.heap.size + 1, 0, none⟩)]) ∧
   w' = (w.alloc (.cells (cN a u) 27)).alloc (.cells #[.string (txt nm)] 9) := by
 go_enter Tryz.func87, Tryz.ntmps87
 go_wp2
 go_ret
 exact ⟨rfl, rfl⟩
theorem named1_in (nm : List UInt8) (a : NdD) (f : NdF) (A : Option Addr) (c b g1 g2 l : Nat) (N : Nat → Prop) (J Jx : List Nd → World → Prop) (W : World)
  (hrow : RowT b W (.slice A f.len c) f) (hb1 : Blk W g1 27 (cN a (.slice A f.len c))) (hb2 : Blk W g2 9 #[.string (txt nm)]) (hN : ∀ k, k < b → N k) (hN1 : N g1) (hN2 : N g2) (hbW : b ≤ W.heap.size) (hlen : f.len ≤ 1000000)
  (hJ : ∀ s, StB W.heap.size (J s)) (hJx : OwnFrom W.heap.size Jx)
  (hY : ∀ pre x post args W1, kidsOf nm f = pre ++ x :: post → J pre W1 → EncN b W.heap.size x args W1 → ∀ m, YieldAt Fence.wide m Tryz.prog l args W1 (GoY W.heap.size N J Jx (pre ++ [x]) W1)) (h0 : J [] W) :
  CallsIn Fence.wide 9 Tryz.prog 108 #[.func (.yield l) #[] #[], .pointer (some ⟨g1, 0, none⟩), .pointer (some ⟨g2, 0, none⟩)] W fun e W' => (∃ v, e = .returned v) ∧ (J (kidsOf nm f) W' ∨ ∃ pre x post, kidsOf nm f = pre ++ x :: post ∧ Jx (pre ++ [x]) W') := by
 have HROW := hHd hrow
 have HB1 := hHd hb1
 have HB2 := hHd hb2
 have HNN := hHd (And.intro hN (And.intro hN1 hN2))
 have HJ := hHd hJ
 have HY := hHd hY
 have HBW := hHd hbW
 have tn : (txt nm).toList = nm := txt_toList nm
 have q5 := (hb1.cell 5).trans rfl
 clear hrow hb1 hb2 hN hN1 hN2 hJ hY hbW
 refine callsIn_of_wp Tryz.func108 rfl trivial ?_ rfl
 simp only [Tryz.ntmps108, List.size_toArray, List.length_cons, List.length_nil, Nat.reduceAdd, Nat.reduceSub, Array.replicate_succ, Array.replicate_zero, List.push_toArray, List.append_toArray, List.nil_append, List.cons_append]
 gi_wp2
 gi_loopw [9] (fun i wr => ∃ (k : Nat) (pre : List Nd), k ≤ f.len ∧ i = .int .i64 (k : Int) ∧ Hid (kidsOf nm f = pre ++ kidsOf nm (Fr.drop k f)) ∧ Hid (KeepN N W.heap.size W wr) ∧ Hid (J pre wr)) (fun i _ => f.len - (intOf i).toNat)
 case atStart => exact ⟨0, [], Nat.zero_le _, rfl, hHd (by cases f <;> rfl), hHd (KeepN.refl _ _ _), hHd h0⟩
 case round =>
  clear h0 q5
  obtain ⟨i, pre, hi, rfl, HE, HK, HP⟩ := hrel
  have i1 : (0 : Int) ≤ (i : Int) := by omega
  by_cases hlt : i < f.len
  ·obtain ⟨y, k, hg⟩ := Fr.get_some hlt
   obtain ⟨g, o, Ay, cy, rfl, -, hnc, hgb, hrk, hcell⟩ := HROW.out.at hg
   have hgW : g < W.heap.size := by have := HBW.out; omega
   have hgk := HK.out.at (HNN.out.1 g hgb) hgW
   have hcw : ∀ j u, (ndC y (.slice Ay k.len cy))[j]? = some u → wr.cell? ⟨g, o + i * 6 + j, none⟩ = some u := fun j u hu => (World.cell?_of_block (w := W) (a := ⟨g, o + i * 6 + j, none⟩) hgk).trans (hcell j u hu)
   have i2 : (i : Int) < (f.len : Int) := by omega
   have hco : ∀ j u, (ndC y (.slice Ay k.len cy))[j]? = some u → wr.cell? ⟨g, o + i * 6 + j, none⟩ = some u := hcw
   have q0 : (wr).cell? ⟨g, o + i * 6, none⟩ = _ := hco 0 _ rfl
   have q1 : (wr).cell? ⟨g, o + i * 6 + 1, none⟩ = _ := hco 1 _ rfl
   have q2 : (wr).cell? ⟨g, o + i * 6 + 2, none⟩ = _ := hco 2 _ rfl
   have q3 : (wr).cell? ⟨g, o + i * 6 + 3, none⟩ = _ := hco 3 _ rfl
   have q4 : (wr).cell? ⟨g, o + i * 6 + 4, none⟩ = _ := hco 4 _ rfl
   have q5 : (wr).cell? ⟨g, o + i * 6 + 5, none⟩ = _ := hco 5 _ rfl
   have q0' : wr.cell? ⟨g, o + i * 6, none⟩ = some (.string (txt y.name)) := q0
   have r2 : (wr.alloc (.cells (cN y (.slice Ay k.len cy)) 27)).cell? ⟨g2, 0, none⟩ = some (.string (txt nm)) := by
    have h := (HK.out.blk HB2.out HNN.out.2.2).alloc (.cells (cN y (.slice Ay k.len cy)) 27)
    exact (h.cell 0).trans rfl
   have HBK := hHd (Blk.new wr 27 (cN y (.slice Ay k.len cy)))
   have ty : (txt y.name).toList = y.name := txt_toList _
   have HD := hHd (kidsOf_drop (nm := nm) hg)
   have HLK : Hid (LieB b (wr.alloc (.cells (cN y (.slice Ay k.len cy)) 27)) (ndC y (.slice Ay k.len cy)) (y, k)) := hHd ((LieB.make (hrk : RowT b W (.slice Ay k.len cy) k)).keep (fun g' hg' => (Below.heap_alloc wr _ g' (by have := HK.out.size; have := HBW.out; omega)).trans (HK.out.at (HNN.out.1 g' hg') (by have := HBW.out; omega))) (Nat.le_refl _))
   have hal : Below wr.heap.size wr (wr.alloc (.cells (cN y (.slice Ay k.len cy)) 27)) := bAl
   have HKK : Hid (KeepN N W.heap.size W (wr.alloc (.cells (cN y (.slice Ay k.len cy)) 27))) := hHd (HK.out.trans (KeepN.below hal))
   have HPK : Hid (J pre (wr.alloc (.cells (cN y (.slice Ay k.len cy)) 27))) := hHd (HJ.out pre _ _ HP.out (hal.mono HK.out.size))
   have HI3 : Hid (i + 1 ≤ f.len) := hHd (by omega)
   clear hcell hcw hco hgk hrk hg hal
   by_cases hn : y.name = nm
   ·have h1 : (y.name == nm) = true := beq_iff_eq.2 hn
    have HE2 : Hid (kidsOf nm f = pre ++ (y, k) :: kidsOf nm (Fr.drop (i + 1) f)) := hHd (by rw [HE.out, HD.out, if_pos hn])
    obtain ⟨p0, p1, p2, p3, p4, p5⟩ := cl6 HBK.out
    obtain ⟨fn, tmps, assign, body, hy, hR⟩ := HY.out pre (y, k) _ _ (wr.alloc (.cells (cN y (.slice Ay k.len cy)) 27)) HE2.out HPK.out ⟨_, rfl, HLK.out⟩ (9 - 1)
    clear hn
    gi_wp2
    refine RoundIn.mono hR ?_
    rintro e W3 (⟨rfl, hJ3, hk3⟩ | ⟨rfl, hJx3, hk3⟩)
    ·have HK3 : Hid (KeepN N W.heap.size W W3) := hHd (HKK.out.trans (hk3.mono (fun _ _ h => h)))
     have HJ3 := hHd hJ3
     have HE3 : Hid (kidsOf nm f = (pre ++ [(y, k)]) ++ kidsOf nm (Fr.drop (i + 1) f)) := hHd (by rw [HE2.out]; simp)
     clear hk3 hJ3 p0 p1 p2 p3 p4 p5 hR hy
     gi_wp2
     go_roundw
     case rel => exact ⟨i + 1, _, HI3.out, by go_num, HE3, HK3, HJ3⟩
     case measure => simp [intOf]; omega
    ·have HX : Hid (∃ pre x post, kidsOf nm f = pre ++ x :: post ∧ Jx (pre ++ [x]) W3) := hHd ⟨pre, (y, k), _, HE2.out, hJx3⟩
     clear hk3 hJx3 p0 p1 p2 p3 p4 p5 hR hy
     gi_wp2
     refine bodyPost_ret (results_none rfl _ _ _) rfl ?_
     exact ⟨⟨_, rfl⟩, .inr HX.out⟩
   ·have h1 : (y.name == nm) = false := beq_eq_false_iff_ne.2 hn
    have HE2 : Hid (kidsOf nm f = pre ++ kidsOf nm (Fr.drop (i + 1) f)) := hHd (by rw [HE.out, HD.out, if_neg hn])
    have p0 := (HBK.out.cell 0).trans rfl
    clear hn
    gi_wp2
    refine ⟨fun _ _ => trivial, ?_⟩
    gi_wp2
    go_roundw
    case rel => exact ⟨i + 1, _, HI3.out, by go_num, HE2, HKK, HPK⟩
    case measure => simp [intOf]; omega
  ·have i2 : ¬ (i : Int) < (f.len : Int) := by omega
   have HX : Hid (J (kidsOf nm f) wr) := hHd (by rw [HE.out, kidsOf_end (by omega), List.append_nil]; exact HP.out)
   gi_wp2
   go_end0
   exact ⟨⟨_, rfl⟩, .inl HX.out⟩
theorem named_seq (nm : List UInt8) (a : NdD) (f : NdF) (A : Option Addr) (c b g1 g2 : Nat) (N : Nat → Prop) (w : World)
  (hrow : RowT b w (.slice A f.len c) f) (hb1 : Blk w g1 27 (cN a (.slice A f.len c))) (hb2 : Blk w g2 9 #[.string (txt nm)]) (hN : ∀ k, k < b → N k) (hN1 : N g1) (hN2 : N g2) (hbW : b ≤ w.heap.size) (hlen : f.len ≤ 1000000) :
  SeqG Tryz.prog 108 #[.pointer (some ⟨g1, 0, none⟩), .pointer (some ⟨g2, 0, none⟩)] (EncN b) N (kidsOf nm f) w := fun l J Jx W hW hJ hJx hY h0 =>
 (callsIn_wide (n := 9)).1 (named1_in nm a f A c b g1 g2 l N J Jx W (hrow.under hW hbW (Nat.le_refl _)) (hb1.below hW hb1.lt) (hb2.below hW hb2.lt) hN hN1 hN2 (Nat.le_trans hbW hW.size) hlen hJ hJx hY h0)
end
end Go.Proofs.YtodlhgflfcadmaaGreat

/- TlvOwn VadDat PakNum -/
import Derived.Test.YtodlhgflfcadmaaGreatUM14
set_option linter.unusedSimpArgs false
set_option linter.unusedVariables false
set_option maxRecDepth 100000
set_option maxHeartbeats 8000000
namespace Go.Proofs.YtodlhgflfcadmaaGreat
open Go.RowKit
def rowOf (D : World → (Nat → Prop) → Value → List UInt8 → Prop) (w : World) (S : Nat → Prop) : List Value → Fo → Prop
 | [], .nil => True
 | a :: b :: c :: xs, .cons t d k r => a = .int .u64 (t : Int) ∧ t < 18446744073709551616 ∧ D w S b d ∧ FV D w S c k ∧ rowOf D w S xs r
 | _, _ => False
section
variable {D : World → (Nat → Prop) → Value → List UInt8 → Prop} {w w' : World} {S S' : Nat → Prop}
theorem rowOf.nil_ {xs : List Value} (h : rowOf D w S xs .nil) : xs = [] := by
 match xs, h with
 | [], _ => rfl
 | [_], h => exact h.elim
 | [_, _], h => exact h.elim
 | _ :: _ :: _ :: _, h => exact h.elim
theorem rowOf.cons_ {xs : List Value} {t : Nat} {d : List UInt8} {k r : Fo} (h : rowOf D w S xs (.cons t d k r)) :
  ∃ a b c ys, xs = a :: b :: c :: ys ∧ a = .int .u64 (t : Int) ∧ t < 18446744073709551616 ∧ D w S b d ∧ FV D w S c k ∧ rowOf D w S ys r := by
 match xs, h with
 | [], h => exact h.elim
 | [_], h => exact h.elim
 | [_, _], h => exact h.elim
 | a :: b :: c :: ys, h => exact ⟨a, b, c, ys, rfl, h⟩
theorem rowOf.kept (hD : Stays D) (hk : ∀ g, S g → w'.heap[g]? = w.heap[g]?) (hS : ∀ g, S g → S' g) : ∀ {f : Fo} {xs : List Value}, rowOf D w S xs f → rowOf D w' S' xs f := by
 intro f
 induction f with
 | nil =>
  intro xs h
  obtain rfl := h.nil_
  trivial
 | cons t d k r _ ih =>
  intro xs h
  obtain ⟨a, b, c, ys, rfl, h1, h2, h3, h4, h5⟩ := h.cons_
  exact ⟨h1, h2, hD _ _ _ _ _ _ hk hS h3, h4.kept hD hk hS, ih h5⟩
theorem rowOf.snoc {t : Nat} {d : List UInt8} {k : Fo} {a b c : Value} (h1 : a = .int .u64 (t : Int)) (h2 : t < 18446744073709551616) (h3 : D w S b d) (h4 : FV D w S c k) :
  ∀ {f : Fo} {xs : List Value}, rowOf D w S xs f → rowOf D w S (xs ++ [a, b, c]) (f.app (.cons t d k .nil)) := by
 intro f
 induction f with
 | nil =>
  intro xs h
  obtain rfl := h.nil_
  exact ⟨h1, h2, h3, h4, trivial⟩
 | cons t' d' k' r _ ih =>
  intro xs h
  obtain ⟨a', b', c', ys, rfl, g1, g2, g3, g4, g5⟩ := h.cons_
  exact ⟨g1, g2, g3, g4, ih g5⟩
theorem rowOf.at {b : Nat} : ∀ {f : Fo} {xs : List Value} {o : Nat}, rowOf D w S xs f → (∀ j u, xs[j]? = some u → w.cell? ⟨b, o + j, none⟩ = some u) → FAt D w S f b o := by
 intro f
 induction f with
 | nil => intro xs o _ _; trivial
 | cons t d k r _ ih =>
  intro xs o h hc
  obtain ⟨x0, x1, x2, ys, rfl, g1, g2, g3, ⟨A, c, hx2, g4, g5⟩, g6⟩ := h.cons_
  refine ⟨by rw [← g1]; exact hc 0 _ rfl, g2, ⟨x1, hc 1 _ rfl, g3⟩, ⟨A, c, by rw [← hx2]; exact hc 2 _ rfl, g4, g5⟩, ih g6 (fun j u hj => ?_)⟩
  have h := hc (j + 3) u (by simpa using hj)
  rwa [show o + (j + 3) = o + 3 + j by omega] at h
end
def ItsI (base : Nat) (w : World) (v : Value) (g : Nat) : Prop := base ≤ g ∧ g < w.heap.size ∧ some g ≠ v.ownBlock
def MineI (base : Nat) (w : World) (g : Nat) : Prop := base ≤ g ∧ g < w.heap.size
def OwnF (D : World → (Nat → Prop) → Value → List UInt8 → Prop) (e : TypeId) (w : World) (base : Nat) (v : Value) (f : Fo) : Prop :=
 ∃ xs, w.ownsRow base e 3 v f.len xs ∧ rowOf D w (ItsI base w v) xs f
section
variable {D : World → (Nat → Prop) → Value → List UInt8 → Prop} {e : TypeId} {w w' : World} {base : Nat} {v : Value} {f : Fo}
theorem OwnF.nil (w : World) (base : Nat) : OwnF D e w base (.slice none 0 0) .nil := ⟨[], World.ownsRow_nil w base e 3, trivial⟩
theorem OwnF.below (hD : Stays D) (h : OwnF D e w base v f) (hb : Below w.heap.size w w') : OwnF D e w' base v f := by
 obtain ⟨xs, h1, h2⟩ := h
 exact ⟨xs, World.ownsRow.kept h1 ⟨hb.os, hb.tape, hb.output, hb.size, fun k hk _ => hb.block k hk⟩ (row := none) (by cases hv : v.ownBlock <;> simp),
  h2.kept hD (fun g hg => hb.block g hg.2.1) (fun g hg => ⟨hg.1, Nat.lt_of_lt_of_le hg.2.1 hb.size, hg.2.2⟩)⟩
theorem OwnF.lt (h : OwnF D e w base v f) : ∀ k, v.ownBlock = some k → base ≤ k ∧ k < w.heap.size := by
 obtain ⟨xs, h1, _⟩ := h
 exact fun k hk => World.ownsRow.lt h1 k hk
theorem OwnF.fv (hD : Stays D) (h : OwnF D e w base v f) : FV D w (MineI base w) v f := by
 obtain ⟨xs, h1, h2⟩ := h
 have h2' : rowOf D w (MineI base w) xs f := h2.kept hD (fun _ _ => rfl) (fun g hg => ⟨hg.1, hg.2.1⟩)
 have hlt := fun k hk => World.ownsRow.lt h1 k hk
 have hh := h1
 rcases h1.2 with ⟨rfl, h0⟩ | ⟨g, cap, cur, rfl, hb, hg, hnc, hcm, hcs, ht⟩
 ·exact ⟨none, 0, by rw [h0], by omega, fun h => absurd h (by omega)⟩
 ·refine ⟨_, cap, rfl, hnc, fun h0 => ⟨g, 0, rfl, hlt g rfl, h2'.at (fun j u hj => ?_)⟩⟩
  have hjl : j < xs.length := (List.getElem?_eq_some_iff.1 hj).1
  have hxl : xs.length = f.len * 3 := h1.1
  rw [World.ownsRow.cellAt hh (0 + j) (by omega), Nat.zero_add, hj]
end
def AppF (D : World → (Nat → Prop) → Value → List UInt8 → Prop) (e : TypeId) (w : World) (base : Nat) (v : Value) (f : Fo) (v' : Value) (w' : World) : Prop :=
 OwnF D e w' base v' f ∧ w.grownBy w' v.ownBlock ∧ (v'.ownBlock = v.ownBlock ∨ v'.ownBlock = some w.heap.size) ∧ ∃ g c, v' = .slice (some ⟨g, 0, none⟩) f.len c
theorem AppF.below {D : World → (Nat → Prop) → Value → List UInt8 → Prop} {e : TypeId} {w w' : World} {base : Nat} {v v' : Value} {f f0 : Fo} (h : AppF D e w base v f v' w') (hown : OwnF D e w base v f0) (hb : base ≤ w.heap.size) : Below base w w' :=
 (Below.refl _ _).grown h.2.1 hb fun k e => (hown.lt k e).1
theorem run_append_it {P : Program} {D : World → (Nat → Prop) → Value → List UInt8 → Prop} (hD : Stays D) (hone : ∀ w S v d, D w S v d → v.oneCell' = true) {ts e : TypeId} {z : Value} {bytes : Nat} (hu : P.underlying ts = some (.slice e))
  (hinfo : (P.info? e).map (fun i => (i.zero, i.size, i.bytes)) = some (some z, 3, bytes)) (hz : z.cells.size = 3) (w : World) (base : Nat) (v : Value) (f : Fo) (hown : OwnF D e w base v f)
  (g : Nat) (t : Nat) (d : List UInt8) (k : Fo) (bv cv : Value) (hblk : Blk w g e #[.int .u64 (t : Int), bv, cv]) (ht : t < 18446744073709551616) (hd : D w (ItsI base w v) bv d) (hk : FV D w (ItsI base w v) cv k)
  (hb : (f.len + 1) * bytes ≤ 140737488355328) (hlen : f.len + 1 ≤ 140737488355328) (hbase : base ≤ w.heap.size) :
  ∃ v' w', (Builtin.append_ #[ts, ts] ts #[v, .slice (some ⟨g, 0, none⟩) 1 1]).run P w = .ok v' w' ∧ AppF D e w base v (f.app (.cons t d k .nil)) v' w' := by
 obtain ⟨i, hi, hz0, hz1, hz2⟩ := info_parts hinfo
 obtain ⟨xs, h1, h2⟩ := hown
 have hlt := fun k hk => World.ownsRow.lt h1 k hk
 have hcv : cv.oneCell' = true := by obtain ⟨A, c, rfl, _⟩ := hk; rfl
 obtain ⟨v', w', hrun, k1, k2, _, k3⟩ := run_append_own_at (P := P) (w := w) base ts ts e i z 3 bytes hu hi hz0 hz1 hz2 hz (by decide) v f.len xs h1
  ⟨g, 0, none⟩ 1 1 [.int .u64 (t : Int), bv, cv] rfl (fun j u hj => by
   have e1 : (⟨g, 0, none⟩ : Addr).add j = ⟨g, j, none⟩ := by unfold Addr.add; split <;> simp_all
   rw [e1, hblk.cell]
   simpa using hj) (by
   intro u hu
   simp only [List.mem_cons, List.not_mem_nil, or_false] at hu
   rcases hu with rfl | rfl | rfl
   ·rfl
   ·exact hone _ _ _ _ hd
   ·exact hcv) (by unfold maxLen; omega) hb hbase
 have hlen' : (f.app (.cons t d k .nil)).len = f.len + 1 := by rw [Fo.len_app]; rfl
 refine ⟨v', w', hrun, ⟨xs ++ [.int .u64 (t : Int), bv, cv], by rw [hlen']; exact k1, ?_⟩, k2, k3, ?_⟩
 ·have h3 := rowOf.snoc (D := D) (w := w) rfl ht hd hk h2
  refine h3.kept hD (fun g' hg' => k2.block g' hg'.2.1 hg'.2.2) (fun g' hg' => ⟨hg'.1, Nat.lt_of_lt_of_le hg'.2.1 k2.size, ?_⟩)
  rcases k3 with h | h
  ·rw [h]; exact hg'.2.2
  ·rw [h]; intro h'; injection h' with h'; have := hg'.2.1; omega
 ·rw [hlen']
  rcases k1.2 with ⟨_, h0⟩ | ⟨g', cap, _, rfl, _⟩
  ·omega
  ·exact ⟨g', cap, rfl⟩
theorem wp_append_it {P : Program} {D : World → (Nat → Prop) → Value → List UInt8 → Prop} (hD : Stays D) (hone : ∀ w S v d, D w S v d → v.oneCell' = true) {ts e : TypeId} {z : Value} {bytes : Nat} (hu : P.underlying ts = some (.slice e))
  (hinfo : (P.info? e).map (fun i => (i.zero, i.size, i.bytes)) = some (some z, 3, bytes)) (hz : z.cells.size = 3) {w : World} {o : Oper} {a : Act} {K : Act → World → Prop} {Q : Exit → Act → World → Prop} (s x : Operand)
  (ho : o.op = .call { callee := .builtin .append, args := #[s, x], argTypes := #[ts, ts] }) (hty : o.type = ts)
  (base : Nat) (v : Value) (f : Fo) (hs : a.eval s = v) (hown : OwnF D e w base v f) (g : Nat) (hx : a.eval x = .slice (some ⟨g, 0, none⟩) 1 1)
  (t : Nat) (d : List UInt8) (k : Fo) (bv cv : Value) (hblk : Blk w g e #[.int .u64 (t : Int), bv, cv]) (ht : t < 18446744073709551616) (hd : D w (ItsI base w v) bv d) (hk : FV D w (ItsI base w v) cv k)
  (hb : (f.len + 1) * bytes ≤ 140737488355328) (hlen : f.len + 1 ≤ 140737488355328) (hbase : base ≤ w.heap.size)
  (hK : ∀ v' w', AppF D e w base v (f.app (.cons t d k .nil)) v' w' → K (a.put o.dst v') w') : o.wp P a w K Q := by
 obtain ⟨v', w', hrun, h2⟩ := run_append_it hD hone hu hinfo hz w base v f hown g t d k bv cv hblk ht hd hk hb hlen hbase
 unfold Oper.wp execOp
 simp only [ho, hty, resolve, invoke, builtin, Sem.run_bind, Sem.run_pure, Result.andThen_ok, List.map_toArray, List.map_cons, List.map_nil, hs, hx, hrun]
 exact hK v' w' h2
theorem wpList_append_it {P : Program} {D : World → (Nat → Prop) → Value → List UInt8 → Prop} (hD : Stays D) (hone : ∀ w S v d, D w S v d → v.oneCell' = true) {ts e : TypeId} {z : Value} {bytes : Nat} (hu : P.underlying ts = some (.slice e))
  (hinfo : (P.info? e).map (fun i => (i.zero, i.size, i.bytes)) = some (some z, 3, bytes)) (hz : z.cells.size = 3) {w : World} {ops : Array Oper} {rest : List Oper} {o : Oper} {a : Act} {Q : Exit → Act → World → Prop} (hgd : o.guard = none) (s x : Operand)
  (ho : o.op = .call { callee := .builtin .append, args := #[s, x], argTypes := #[ts, ts] }) (hty : o.type = ts)
  (base : Nat) (v : Value) (f : Fo) (hs : a.eval s = v) (hown : OwnF D e w base v f) (g : Nat) (hx : a.eval x = .slice (some ⟨g, 0, none⟩) 1 1)
  (t : Nat) (d : List UInt8) (k : Fo) (bv cv : Value) (hblk : Blk w g e #[.int .u64 (t : Int), bv, cv]) (ht : t < 18446744073709551616) (hd : D w (ItsI base w v) bv d) (hk : FV D w (ItsI base w v) cv k)
  (hb : (f.len + 1) * bytes ≤ 140737488355328) (hlen : f.len + 1 ≤ 140737488355328) (hbase : base ≤ w.heap.size)
  (hK : ∀ v' w', AppF D e w base v (f.app (.cons t d k .nil)) v' w' → wpList P ops Q rest (a.put o.dst v') w') : wpList P ops Q (o :: rest) a w :=
 wpList_plain hgd fun _ hK' => wp_append_it hD hone hu hinfo hz s x ho hty base v f hs hown g hx t d k bv cv hblk ht hd hk hb hlen hbase fun v' w' hp => hK' _ _ (hK v' w' hp)
theorem one_R (w : World) (S : Nat → Prop) (v : Value) (d : List UInt8) (h : DataR w S v d) : v.oneCell' = true := by unfold DataR at h; subst h; rfl
theorem one_I (w : World) (S : Nat → Prop) (v : Value) (d : List UInt8) (h : DataI w S v d) : v.oneCell' = true := by obtain ⟨_, ⟨A, c, rfl, _⟩, _⟩ := h; rfl
def DatP (s : List UInt8) (w : World) (r : Ending) (w' : World) : Prop := ∃ v, r = .returned v ∧ DataI w' (MineI w.heap.size w') v s ∧ Below w.heap.size w w'
theorem DatP.from {s : List UInt8} {w W : World} {r : Ending} {w' : World} (h : DatP s W r w') (hb : Below w.heap.size w W) : DatP s w r w' := by
 obtain ⟨v, h1, ⟨db, h2, h3⟩, h4⟩ := h
 exact ⟨v, h1, ⟨db, h2, fun h0 => ⟨Nat.le_trans hb.size (h3 h0).1, (h3 h0).2⟩⟩, hb.trans (h4.mono hb.size)⟩
theorem hp9 {s : List UInt8} {w : World} {r : Ending} {w' : World} (h : DatP s w r w') : Below w.heap.size w w' := by
 obtain ⟨_, _, _, h⟩ := h
 exact h
theorem datP_big {x n : Nat} {w : World} {r : Ending} {w' : World} (h : BigAny x n w r w') : DatP (bigB x n) w r w' := by
 obtain ⟨v, h1, h2, h3, h4⟩ := h
 exact ⟨v, h1, ⟨_, h2, fun h0 => ⟨Nat.le_refl _, h2.lt h0⟩⟩, h3⟩
theorem bytes_rd (w : World) (s : List UInt8) (e : TypeId) (n : Nat × Nat) (c : Nat) (hs : s.length ≤ 1048576) (hc : s.length ≤ c) : Rd (w.drew.alloc (.cells (bytesRow (txt s) c) e n)) w.heap.size (.slice (some ⟨w.heap.size, 0, none⟩) s.length c) s := by
 refine ⟨_, _, rfl, hc, by omega, fun _ => ⟨0, rfl, fun j b hj => ?_⟩⟩
 have hlt := (List.getElem?_eq_some_iff.1 hj).1
 have hb : (w.drew.alloc (.cells (bytesRow (txt s) c) e n)).heap[w.heap.size]? = some (.cells (bytesRow (txt s) c) e n) := heap_alloc_new w.drew _
 rw [Nat.zero_add, cell_of_row _ _ _ _ _ _ hb]
 unfold bytesRow
 have hd : (txt s).data = s.toArray := rfl
 rw [hd, Array.getElem?_append_left (by simpa using hlt)]
 simp [hj, byteV]
theorem datP_bytes {w W : World} {s : List UInt8} {e : TypeId} {n : Nat × Nat} {c g : Nat} (hg : g = W.heap.size) (hs : s.length ≤ 1048576) (hc : s.length ≤ c) (hb : Below w.heap.size w W) :
  DataI (W.drew.alloc (.cells (bytesRow (txt s) c) e n)) (MineI w.heap.size (W.drew.alloc (.cells (bytesRow (txt s) c) e n))) (.slice (some ⟨g, 0, none⟩) s.length c) s ∧ Below w.heap.size w (W.drew.alloc (.cells (bytesRow (txt s) c) e n)) := by
 subst hg
 exact ⟨⟨_, bytes_rd W s e n c hs hc, fun _ => ⟨hb.size, by show W.heap.size < (W.heap.push _).size; simp⟩⟩, hb.drew.alloc hb.size _⟩
theorem numdata_any (lo hi : Nat) (vk : Int) (vn : Nat) (vt : List UInt8) (w : World) (hn : vn < 18446744073709551616) :
  Calls Tryz.prog 159 #[.agg #[.int .u64 (lo : Int), .int .u64 (hi : Int)], .agg #[.int .i64 vk, .int .u64 (vn : Int), .string (txt vt)]] w (DatP (leastB vn) w) := by
 have HB : Hid (Below w.heap.size w ((w.alloc (.cells #[.int .u64 (lo : Int), .int .u64 (hi : Int)] 166)).alloc (.cells #[.int .i64 vk, .int .u64 (vn : Int), .string (txt vt)] 24))) := hHd (bAl.alloc (by simp) _)
 have HL := hHd (least_any vn ((w.alloc (.cells #[.int .u64 (lo : Int), .int .u64 (hi : Int)] 166)).alloc (.cells #[.int .i64 vk, .int .u64 (vn : Int), .string (txt vt)] 24)) hn)
 clear hn
 go_enter Tryz.func159, Tryz.ntmps159
 go_wp2_with fail
 refine HL.out.mono ?_
 intro r w2 hp
 obtain ⟨v, rfl, hd⟩ := (datP_big hp).from HB.out
 have HD := hHd hd
 clear hd hp
 go_wp2
 go_ret
 exact ⟨v, rfl, HD.out⟩
theorem flagdata_any (lo hi : Int) (vk : Int) (vn : Nat) (vt : List UInt8) (w : World) :
  Calls Tryz.prog 169 #[.agg #[.int .u64 lo, .int .u64 hi], .agg #[.int .i64 vk, .int .u64 (vn : Int), .string (txt vt)]] w (DatP [UInt8.ofNat vn] w) := by
 have HB : Hid (Below w.heap.size w ((w.alloc (.cells #[.int .u64 lo, .int .u64 hi] 170)).alloc (.cells #[.int .i64 vk, .int .u64 (vn : Int), .string (txt vt)] 24))) := hHd (bAl.alloc (by simp) _)
 have HL : Hid (Calls Tryz.prog 163 #[.int .u64 (vn : Int), .int .i64 1] ((w.alloc (.cells #[.int .u64 lo, .int .u64 hi] 170)).alloc (.cells #[.int .i64 vk, .int .u64 (vn : Int), .string (txt vt)] 24)) (BigAny vn 1 ((w.alloc (.cells #[.int .u64 lo, .int .u64 hi] 170)).alloc (.cells #[.int .i64 vk, .int .u64 (vn : Int), .string (txt vt)] 24)))) := hHd (big_any vn 1 ((w.alloc (.cells #[.int .u64 lo, .int .u64 hi] 170)).alloc (.cells #[.int .i64 vk, .int .u64 (vn : Int), .string (txt vt)] 24)) (by decide))
 have HE : Hid (bigB vn 1 = [UInt8.ofNat vn]) := hHd (by rw [bigB_succ, bigB_zero]; rfl)
 go_enter Tryz.func169, Tryz.ntmps169
 go_wp2_with fail
 refine HL.out.mono ?_
 intro r w2 hp
 obtain ⟨v, rfl, hd⟩ := (datP_big hp).from HB.out
 rw [HE.out] at hd
 have HD := hHd hd
 clear hd hp
 go_wp2
 go_ret
 exact ⟨v, rfl, HD.out⟩
theorem choicedata_any (ns : List (List UInt8)) (i : Nat) (d : Nat) (A : Option Addr) (c : Nat) (vk : Int) (vn : Nat) (vt : List UInt8) (w : World) (hv : Vals w d (.slice A ns.length c) (txts ns)) (hl : ns.length ≤ 1000000) (hi : whichX ns vt = some i) :
  Calls Tryz.prog 172 #[.agg #[.slice A ns.length c], .agg #[.int .i64 vk, .int .u64 (vn : Int), .string (txt vt)]] w (DatP [UInt8.ofNat i] w) := by
 have hb : Below w.heap.size w ((w.alloc (.cells #[.slice A ns.length c] 172)).alloc (.cells #[.int .i64 vk, .int .u64 (vn : Int), .string (txt vt)] 24)) := bAl.alloc (by simp) _
 have HB := hHd hb
 have hC := sindex_any ns vt d A c ((w.alloc (.cells #[.slice A ns.length c] 172)).alloc (.cells #[.int .i64 vk, .int .u64 (vn : Int), .string (txt vt)] 24)) (hv.heap (fun h0 => hb.block d (by obtain ⟨A', c', _, _, h2⟩ := hv; exact (h2 h0).1))) hl
 have e : whichI ns vt = (i : Int) := by unfold whichI; rw [hi]
 rw [e] at hC
 have HC := hHd hC
 have i0 : (0 : Int) ≤ (i : Int) := by omega
 have eb : IntKind.u8.wrap (i : Int) = ((UInt8.ofNat i).toNat : Int) := by
  simp [IntKind.wrap, IntKind.signed, IntKind.bits, UInt8.toNat_ofNat']
 clear hb hv hC e hi
 obtain ⟨x, hx⟩ : ∃ x, x = ((UInt8.ofNat i).toNat : Int) := ⟨_, rfl⟩
 have HX := hHd hx
 rw [← hx] at eb
 clear hx
 go_enter Tryz.func172, Tryz.ntmps172
 go_wp2_with fail
 refine HC.out.mono ?_
 rintro r w2 ⟨rfl, rfl⟩
 go_wp2
 go_ret
 obtain rfl := HX.out
 exact ⟨_, rfl, ⟨_, Rd.of_blk (l := [UInt8.ofNat i]) (Blk.newA (w := ((w.alloc (.cells #[.slice A ns.length c] 172)).alloc (.cells #[.int .i64 vk, .int .u64 (vn : Int), .string (txt vt)] 24))) (by simp) _ _) (by simp), fun _ => ⟨by omega, by simp⟩⟩, HB.out.alloc HB.out.size _⟩
theorem namedata_any (vk : Int) (vn : Nat) (vt : List UInt8) (w : World) (ht : vt.length ≤ 1048576) :
  Calls Tryz.prog 179 #[.agg #[], .agg #[.int .i64 vk, .int .u64 (vn : Int), .string (txt vt)]] w (DatP vt w) := by
 have HB : Hid (Below w.heap.size w ((w.alloc (.cells #[] 173)).alloc (.cells #[.int .i64 vk, .int .u64 (vn : Int), .string (txt vt)] 24))) := hHd (bAl.alloc (by simp) _)
 have kc := fun (W : World) => run_bytes_of_string (P := Tryz.prog) W 9 30 5 (txt vt) Tryz.underlying9 Tryz.underlying30 Tryz.underlying5
 have HT := hHd ht
 clear ht
 go_enter Tryz.func179, Tryz.ntmps179
 go_wp2
 go_ret
 exact ⟨_, rfl, datP_bytes (W := ((w.alloc (.cells #[] 173)).alloc (.cells #[.int .i64 vk, .int .u64 (vn : Int), .string (txt vt)] 24))) (by simp) (c := grownCap ((w.alloc (.cells #[] 173)).alloc (.cells #[.int .i64 vk, .int .u64 (vn : Int), .string (txt vt)] 24)) vt.length 0 5) HT.out (grownCap_ge _ _ _ _) HB.out⟩
theorem vdata_no (nm : List UInt8) (kd ty lo hi : Nat) (mu : Bool) (mo : Nat) (B : Option Addr) (L m : Nat) (A : Option Addr) (kn c : Nat) (vk : Int) (vn : Nat) (vt : List UInt8) (w : World)
  (hR : ∀ W, Below w.heap.size w W → Calls Tryz.prog 100 #[.agg (cS (txt nm) kd ty lo hi (.slice B L m) mu mo (.slice A kn c)), .agg #[.int .i64 vk, .int .u64 (vn : Int), .string (txt vt)]] W (AnsP (.bool false) W)) :
  Calls Tryz.prog 76 #[.agg (cS (txt nm) kd ty lo hi (.slice B L m) mu mo (.slice A kn c)), .agg #[.int .i64 vk, .int .u64 (vn : Int), .string (txt vt)]] w (DatP [] w) := by
 have hbx : Below w.heap.size w ((w.alloc (.cells (cS (txt nm) kd ty lo hi (.slice B L m) mu mo (.slice A kn c)) 61)).alloc (.cells #[.int .i64 vk, .int .u64 (vn : Int), .string (txt vt)] 24)) := bAl.alloc (by simp) _
 have h0 : Blk ((w.alloc (.cells (cS (txt nm) kd ty lo hi (.slice B L m) mu mo (.slice A kn c)) 61)).alloc (.cells #[.int .i64 vk, .int .u64 (vn : Int), .string (txt vt)] 24)) w.heap.size 61 (cS (txt nm) kd ty lo hi (.slice B L m) mu mo (.slice A kn c)) := (Blk.new w 61 (cS (txt nm) kd ty lo hi (.slice B L m) mu mo (.slice A kn c))).alloc _
 have h1 : Blk ((w.alloc (.cells (cS (txt nm) kd ty lo hi (.slice B L m) mu mo (.slice A kn c)) 61)).alloc (.cells #[.int .i64 vk, .int .u64 (vn : Int), .string (txt vt)] 24)) (w.heap.size + 1) 24 #[.int .i64 vk, .int .u64 (vn : Int), .string (txt vt)] := Blk.newA (w := w.alloc (.cells (cS (txt nm) kd ty lo hi (.slice B L m) mu mo (.slice A kn c)) 61)) (by simp) _ _
 obtain ⟨q0, q1, q2, q3, q4, q5, q6, q7, q8⟩ := cl9 h0
 obtain ⟨p0, p1, p2⟩ := cl3 h1
 have HS0 := hHd (And.intro h0 h1)
 have HBX := hHd hbx
 clear hbx h0 h1
 have HR := hHd hR
 clear hR
 go_enter Tryz.func76, Tryz.ntmps76
 go_wp2_with fail
 refine (HR.out _ HBX.out).mono ?_
 rintro r w3 ⟨rfl, hb⟩
 have HB3 := hHd (HBX.out.trans (hb.mono HBX.out.size))
 clear hb q0 q1 q2 q3 q4 q5 q6 q7 q8 p0 p1 p2
 go_wp2
 go_ret
 exact ⟨_, rfl, ⟨0, Rd.nil _ _, fun h => absurd h (by simp)⟩, HB3.out⟩
theorem vdata_in (T : TypeId) (x recv : Value) (F : FuncId) (s : List UInt8) (nm : List UInt8) (kd ty lo hi : Nat) (mu : Bool) (mo : Nat) (B : Option Addr) (L m : Nat) (A : Option Addr) (kn c : Nat) (vk : Int) (vn : Nat) (vt : List UInt8) (w : World)
  (hR : ∀ W, Below w.heap.size w W → Calls Tryz.prog 100 #[.agg (cS (txt nm) kd ty lo hi (.slice B L m) mu mo (.slice A kn c)), .agg #[.int .i64 vk, .int .u64 (vn : Int), .string (txt vt)]] W (AnsP (.bool true) W))
  (hm : ∀ w, (method 313 T x "tollbar/value.data").run Tryz.prog w = .ok (F, recv) w) (heg : ∀ args w, (callFunc F args).run Tryz.prog w = .ok (.enter F args) w) (hof : ofV kd ty lo hi (.slice B L m) = .iface T x) (hF : ∀ W, Below w.heap.size w W → Calls Tryz.prog F #[recv, .agg #[.int .i64 vk, .int .u64 (vn : Int), .string (txt vt)]] W (DatP s W)) :
  Calls Tryz.prog 76 #[.agg (cS (txt nm) kd ty lo hi (.slice B L m) mu mo (.slice A kn c)), .agg #[.int .i64 vk, .int .u64 (vn : Int), .string (txt vt)]] w (DatP s w) := by
 have hbx : Below w.heap.size w ((w.alloc (.cells (cS (txt nm) kd ty lo hi (.slice B L m) mu mo (.slice A kn c)) 61)).alloc (.cells #[.int .i64 vk, .int .u64 (vn : Int), .string (txt vt)] 24)) := bAl.alloc (by simp) _
 have h0 : Blk ((w.alloc (.cells (cS (txt nm) kd ty lo hi (.slice B L m) mu mo (.slice A kn c)) 61)).alloc (.cells #[.int .i64 vk, .int .u64 (vn : Int), .string (txt vt)] 24)) w.heap.size 61 (cS (txt nm) kd ty lo hi (.slice B L m) mu mo (.slice A kn c)) := (Blk.new w 61 (cS (txt nm) kd ty lo hi (.slice B L m) mu mo (.slice A kn c))).alloc _
 have h1 : Blk ((w.alloc (.cells (cS (txt nm) kd ty lo hi (.slice B L m) mu mo (.slice A kn c)) 61)).alloc (.cells #[.int .i64 vk, .int .u64 (vn : Int), .string (txt vt)] 24)) (w.heap.size + 1) 24 #[.int .i64 vk, .int .u64 (vn : Int), .string (txt vt)] := Blk.newA (w := w.alloc (.cells (cS (txt nm) kd ty lo hi (.slice B L m) mu mo (.slice A kn c)) 61)) (by simp) _ _
 obtain ⟨q0, q1, q2, q3, q4, q5, q6, q7, q8⟩ := cl9 h0
 obtain ⟨p0, p1, p2⟩ := cl3 h1
 have HS0 := hHd (And.intro h0 h1)
 have HBX := hHd hbx
 clear hbx h0 h1
 have HOF : Hid (∀ W, Calls Tryz.prog 101 #[.agg (cS (txt nm) kd ty lo hi (.slice B L m) mu mo (.slice A kn c))] W (AnsP (.iface T x) W)) := hHd (fun W => by rw [← hof]; exact of_any nm kd ty lo hi mu mo B L m A kn c W)
 have HF := hHd hF
 have HM := hHd hm
 have HE := hHd heg
 have HR := hHd hR
 clear hR hof hF hm heg
 go_enter Tryz.func76, Tryz.ntmps76
 go_wp2_with fail
 refine (HR.out _ HBX.out).mono ?_
 rintro r w3 ⟨rfl, hb⟩
 have HB3 := hHd (HBX.out.trans (hb.mono HBX.out.size))
 have HS3 := hHd (And.intro (HS0.out.1.below hb.drew HS0.out.1.lt) (HS0.out.2.below hb.drew HS0.out.2.lt))
 clear hb q0 q1 q2 q3 q4 q5 q6 q7 q8 p0 p1 p2
 go_wp2_with fail
 refine wp_region_noPanic ?_
 refine wp_region_held_drew (S := fun _ => True) (by kernel_rfl) trivial (fun hS => ?_)
 refine held_more (S' := fun w' => Blk w' w.heap.size 61 (cS (txt nm) kd ty lo hi (.slice B L m) mu mo (.slice A kn c)) ∧ Blk w' (w.heap.size + 1) 24 #[.int .i64 vk, .int .u64 (vn : Int), .string (txt vt)]) (fun _ _ => trivial) _ _ _ _ ?_
 replace hS := HS3.out
 refine tkH 0 hS ?_ (hy := fun w hSw => by obtain ⟨q0, q1, q2, q3, q4, q5, q6, q7, q8⟩ := cl9 hSw.1; (go_simp <;> with_reducible rfl))
 refine tkH 2 hS ?_ (hy := fun w hSw => by obtain ⟨q0, q1, q2⟩ := cl3 hSw.2; (go_simp <;> with_reducible rfl))
 refine rdy1 1 fun K hK => ?_
 go_simp
 refine (HOF.out _).mono ?_
 rintro r w7 ⟨rfl, hb⟩
 have HB7 := hHd (HB3.out.drew.trans (hb.mono HB3.out.drew.size))
 have HS7 := hHd (And.intro (HS3.out.1.below hb HS3.out.1.lt) (HS3.out.2.below hb HS3.out.2.lt))
 clear hb
 go_wp2_with fail
 refine hK.out _ _ ?sr_0 (fun hS => ?_)
 case sr_0 => (exact HS7.out)
 clear hK K
 (try simp only [Act.put, layS])
 refine rdy1 3 fun K hK => ?_
 go_simp
 rw [HM.out]
 simp only [Result.andThen]
 rw [HE.out]
 refine (HF.out _ HB7.out).mono ?_
 intro r w9 hp
 obtain ⟨v9, rfl, hd⟩ := hp.from HB7.out
 have HD9 := hHd hd
 have HS9 := hHd (And.intro (HS7.out.1.below (hp9 hp) HS7.out.1.lt) (HS7.out.2.below (hp9 hp) HS7.out.2.lt))
 clear hd hp
 go_wp2_with fail
 refine hK.out _ _ ?sr_1 (fun hS => ?_)
 case sr_1 => (exact HS9.out)
 clear hK K
 (try simp only [Act.put, layS])
 refine tkH 4 hS ?_
 refine wpAnyH_done (by kernel_rfl) ?_ _
 refine NoPanic.normal ?_
 clear hS
 go_wp2
 go_ret
 exact ⟨_, rfl, HD9.out⟩
theorem vdata_any (nm : List UInt8) (kd ty lo hi : Nat) (ns : List (List UInt8)) (mu : Bool) (mo : Nat) (B : Option Addr) (m d : Nat) (A : Option Addr) (kn c : Nat) (vk : Int) (vn : Nat) (vt : List UInt8) (w : World)
  (hv : Vals w d (.slice B ns.length m) (txts ns)) (hl : ns.length ≤ 1000000) (hn : vn < 18446744073709551616) (ht : vt.length ≤ 1048576) :
  Calls Tryz.prog 76 #[.agg (cT nm kd ty lo hi ns mu mo B m A kn c), .agg #[.int .i64 vk, .int .u64 (vn : Int), .string (txt vt)]] w (DatP (dataX ⟨nm, kd, ty, lo, hi, ns, mu, mo⟩ ⟨vk, vn, vt⟩) w) := by
 have hvW : ∀ W, Below w.heap.size w W → Vals W d (.slice B ns.length m) (txts ns) := fun W hW => hv.heap (fun h0 => hW.block d (by obtain ⟨A', c', _, _, h2⟩ := hv; exact (h2 h0).1))
 have hR := fun W hW => vright_any nm kd ty lo hi ns mu mo B m d A kn c vk vn vt W (hvW W hW) hl hn ht
 cases hx : rightX ⟨nm, kd, ty, lo, hi, ns, mu, mo⟩ ⟨vk, vn, vt⟩ with
 | false =>
  rw [hx] at hR
  have e : dataX ⟨nm, kd, ty, lo, hi, ns, mu, mo⟩ ⟨vk, vn, vt⟩ = [] := by unfold dataX; rw [if_pos hx]
  rw [e]
  exact vdata_no nm kd ty lo hi mu mo B ns.length m A kn c vk vn vt w hR
 | true =>
  rw [hx] at hR
  have h := (right_leaf hx).2
  simp only at h
  have hx' := hx
  rw [right_cases9 nm kd ty lo hi ns mu mo vk vn vt h] at hx'
  by_cases hk : kd = 1
  ·rw [if_neg (by simp [hk])] at hx'
   subst hk
   unfold dataX
   rw [if_neg (by rw [hx]; simp)]
   by_cases h1 : ty = 1 ∨ ty = 2
   ·rw [if_pos h1]
    rcases h1 with rfl | rfl
    ·exact vdata_in 168 (.agg #[.int .u64 (lo : Int), .int .u64 (hi : Int)]) (.agg #[.int .u64 (lo : Int), .int .u64 (hi : Int)]) 159 _ nm _ _ lo hi mu mo B ns.length m A kn c vk vn vt w hR (fun _ => by kernel_rfl) (Go.Proofs.enters_of Tryz.func159 (by kernel_rfl) rfl) rfl (fun W _ => numdata_any lo hi vk vn vt W hn)
    ·exact vdata_in 169 (.agg #[.int .u64 (lo : Int), .int .u64 (hi : Int)]) (.agg #[.int .u64 (lo : Int), .int .u64 (hi : Int)]) 159 _ nm _ _ lo hi mu mo B ns.length m A kn c vk vn vt w hR (fun _ => by kernel_rfl) (Go.Proofs.enters_of Tryz.func159 (by kernel_rfl) rfl) rfl (fun W _ => numdata_any lo hi vk vn vt W hn)
   ·rw [if_neg h1] at hx'
    rw [if_neg h1]
    by_cases h3 : ty = 3
    ·rw [if_pos h3]
     subst h3
     exact vdata_in 170 (.agg #[.int .u64 0, .int .u64 1]) (.agg #[.int .u64 0, .int .u64 1]) 169 _ nm _ _ lo hi mu mo B ns.length m A kn c vk vn vt w hR (fun _ => by kernel_rfl) (Go.Proofs.enters_of Tryz.func169 (by kernel_rfl) rfl) rfl (fun W _ => flagdata_any 0 1 vk vn vt W)
    ·rw [if_neg h3] at hx'
     rw [if_neg h3]
     by_cases h4 : ty = 4
     ·rw [if_pos h4] at hx'
      rw [if_pos h4]
      subst h4
      simp only [Bool.and_eq_true] at hx'
      obtain ⟨i, hi'⟩ := Option.isSome_iff_exists.1 hx'.2
      have ei : (whichX ns vt).getD 0 = i := by rw [hi']; rfl
      simp only [ei]
      exact vdata_in 172 (.agg #[.slice B ns.length m]) (.agg #[.slice B ns.length m]) 172 _ nm _ _ lo hi mu mo B ns.length m A kn c vk vn vt w hR (fun _ => by kernel_rfl) (Go.Proofs.enters_of Tryz.func172 (by kernel_rfl) rfl) rfl (fun W hW => choicedata_any ns i d B m vk vn vt W (hvW W hW) hl hi')
     ·rw [if_neg h4] at hx'
      rw [if_neg h4]
      by_cases h5 : ty = 5 ∨ ty = 6
      ·rcases h5 with rfl | rfl
       ·exact vdata_in 175 (.agg #[]) (.agg #[]) 179 _ nm _ _ lo hi mu mo B ns.length m A kn c vk vn vt w hR (fun _ => by kernel_rfl) (Go.Proofs.enters_of Tryz.func179 (by kernel_rfl) rfl) rfl (fun W _ => namedata_any vk vn vt W ht)
       ·exact vdata_in 176 (.agg #[]) (.agg #[]) 179 _ nm _ _ lo hi mu mo B ns.length m A kn c vk vn vt w hR (fun _ => by kernel_rfl) (Go.Proofs.enters_of Tryz.func179 (by kernel_rfl) rfl) rfl (fun W _ => namedata_any vk vn vt W ht)
      ·rw [if_neg h5] at hx'
       cases hx'
  ·rw [if_pos hk] at hx'
   cases hx'
def dtW (d : SpD) (a : NdD) : List UInt8 := if d.kind = 1 then dataX d (vlOf a) else []
def kdW (g : NdF → Fo) (d : SpD) (a : NdD) (k : NdF) : Fo := if d.kind = 1 then .nil else if d.kind = 3 then .cons 0 a.key .nil (g k) else g k
def collW (g : NdF → Fo) (d : SpD) (tag : Nat) : NdF → Fo
 | .nil => .nil
 | .cons a k r => if a.name = d.name then .cons tag (dtW d a) (kdW g d a k) (collW g d tag r) else collW g d tag r
def tgW (d : SpD) (i : Nat) : Nat := 2 * i + 2 + (if d.kind = 1 then 0 else 1)
def itF : SpF → Nat → NdF → Fo
 | .nil, _, _ => .nil
 | .cons d s r, i, f => (collW (fun k => itF s 0 k) d (tgW d i) f).app (itF r (i + 1) f)
def ItemsX (v : Int) (x : Nd) : Fo := if MayX v x = true then itF (rootX v).1.2 0 x.2 else .nil
theorem coll_app (g : NdF → Fo) (d : SpD) (tag : Nat) (l m : NdF) : collW g d tag (l.app m) = (collW g d tag l).app (collW g d tag m) := by
 induction l with
 | nil => rfl
 | cons a k r _ ih =>
  simp only [Fr.app, collW]
  split
  ·simp only [Fo.app, ih]
  ·exact ih
theorem coll_len (g : NdF → Fo) (d : SpD) (tag : Nat) (f : NdF) : (collW g d tag f).len ≤ f.len := by
 induction f with
 | nil => exact Nat.le_refl _
 | cons a k r _ ih =>
  simp only [collW, Fr.len]
  split
  ·simp only [Fo.len]; omega
  ·omega
theorem it_app (s t : SpF) (f : NdF) : ∀ i, itF (s.app t) i f = (itF s i f).app (itF t (i + s.len) f) := by
 induction s with
 | nil => intro i; rfl
 | cons d k r _ ih =>
  intro i
  simp only [Fr.app, itF, Fr.len, ih, Fo.app_assoc]
  rw [show i + 1 + r.len = i + (r.len + 1) by omega]
theorem it_len (s : SpF) (f : NdF) : ∀ i, (itF s i f).len ≤ s.len * f.len := by
 induction s with
 | nil => intro i; simp [itF, Fo.len]
 | cons d k r _ ih =>
  intro i
  simp only [itF, Fo.len_app, Fr.len]
  have h1 := coll_len (fun k' => itF k 0 k') d (tgW d i) f
  have h2 := ih (i + 1)
  have h3 : (r.len + 1) * f.len = r.len * f.len + f.len := by rw [Nat.add_mul, Nat.one_mul]
  omega
def geT (n : Nat) : Fo → Prop
 | .nil => True
 | .cons t _ _ r => n ≤ t ∧ geT n r
theorem geT.mono {m n : Nat} (h : m ≤ n) : ∀ {f : Fo}, geT n f → geT m f := by
 intro f
 induction f with
 | nil => intro _; trivial
 | cons t d k r _ ih => intro ⟨h1, h2⟩; exact ⟨by omega, ih h2⟩
theorem geT.app {n : Nat} : ∀ {f g : Fo}, geT n f → geT n g → geT n (f.app g) := by
 intro f
 induction f with
 | nil => intro g _ h; exact h
 | cons t d k r _ ih => intro g ⟨h1, h2⟩ h; exact ⟨h1, ih h2 h⟩
def plB : SpF → Bool
 | .nil => true
 | .cons d s r => (decide (d.kind = 1) || (decide (d.kind = 3) && plB s)) && (findX d.name r).isNone && plB r
theorem root_pl (v : Int) : plB (rootX v).1.2 = true := by
 unfold rootX
 split
 ·rfl
 ·rename_i h
  have h' : v = 1 ∨ v = 2 ∨ v = 3 := by omega
  rcases h' with rfl | rfl | rfl <;> decide
end Go.Proofs.YtodlhgflfcadmaaGreat

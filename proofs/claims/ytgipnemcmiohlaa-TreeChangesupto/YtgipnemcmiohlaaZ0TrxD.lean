/- What the laws of package tree want of TrxD. -/
import Derived.Test.YtgipnemcmiohlaaZ0TrxC
namespace Go.Proofs.Ytgipnemcmiohlaa
open Go.RowKit
set_option linter.unusedSimpArgs false
set_option linter.unusedVariables false
/-- What Grow of no row leaves. -/
def GrowP (w : World) (r : Ending) (w' : World) : Prop := ∃ v, r = .returned v ∧ OwnK 27 6 w' w.heap.size v 0 [] ∧ Below w.heap.size w w'
set_option maxRecDepth 100000 in
set_option maxHeartbeats 1000000 in
theorem grow_zero (w : World) : Calls Try.prog 51 #[.slice none 0 0, .int .i64 0] w (GrowP w) := by
  have HP : Hid (GrowP w (.returned (.slice none 0 0)) w) := Lib.hid ⟨_, rfl, OwnK.nil _ _ _ _, Below.refl _ _⟩
  go_enter Try.func51, Try.ntmps51
  go_wp2
  go_ret
  exact HP.out
set_option maxRecDepth 100000 in
set_option maxHeartbeats 1000000 in
theorem grow_some (n : Nat) (w : World) (h0 : 0 < n) (hn : n ≤ 1000000) : Calls Try.prog 51 #[.slice none 0 0, .int .i64 (n : Int)] w (GrowP w) := by
  obtain ⟨i0, hi0, hz0, hzs, hzb⟩ := info_parts Try.cellsNd
  obtain ⟨G, hG⟩ : ∃ G, G = grownCap w n 0 27 := ⟨_, rfl⟩
  obtain ⟨z, hz⟩ : ∃ z : Value, z = .agg #[.string ⟨#[]⟩, .string ⟨#[]⟩, .int .i64 0, .int .u64 0, .string ⟨#[]⟩, .slice none 0 0] := ⟨_, rfl⟩
  have hz6 : z.cells.size = 6 := by rw [hz]; rfl
  obtain ⟨Z, hZ⟩ : ∃ Z : Array Value, Z = Builtin.zeroCells z.cells n ++ Builtin.zeroCells z.cells (G - n) := ⟨_, rfl⟩
  have hGn : n ≤ G := by rw [hG]; exact grownCap_ge _ _ _ _
  have hGm : G ≤ maxLen := by rw [hG]; exact grownCap_le_maxLen _ _ _ _ (by unfold maxLen; omega)
  have hZl : Z.size = G * 6 := by
    rw [hZ, Array.size_append, zeroC_len z hz6, zeroC_len z hz6]
    omega
  have hrz : Hid (∀ ty, (Builtin.append_ #[25, 3] ty #[.slice none 0 0, .int .i64 (n : Int)]).run Try.prog w = .ok (.slice (some ⟨w.heap.size, 0, none⟩) n G) (w.drew.alloc (.cells Z 27))) := Lib.hid (fun ty => by
    have h := Lib.run_append_nil_zeros w 25 3 ty 27 i0 z .i64 .i64 Try.underlying25 Try.underlying3 hi0 (by rw [hz0, hz]) n h0 (by omega) (by omega) (by rw [hzb]; omega)
    rw [← hG, ← hZ] at h
    exact h)
  have HP : Hid (GrowP w (.returned (.slice (some ⟨w.heap.size, 0, none⟩) 0 G)) (w.drew.alloc (.cells Z 27))) := Lib.hid ⟨_, rfl, World.ownsRow_made w.drew Z G (Nat.le_refl _) hGm hZl, (Below.refl w.heap.size w).drew.alloc (by simp) _⟩
  have hG47 : (G : Int) ≤ 9223372036854775807 := by unfold maxLen at hGm; omega
  have i1 : (0 : Int) < (n : Int) := by omega
  have i2 : (n : Int) ≤ 1000000 := by omega
  have i3 : (n : Int) ≤ (G : Int) := by omega
  have i4 : ¬ (n : Int) < 0 := by omega
  have i5 : (0 : Int) ≤ (G : Int) := by omega
  clear hi0 hz0 hzs hzb hG hz hz6 hZ hGm hZl h0
  go_enter Try.func51, Try.ntmps51
  go_wp2_with (at_builtin; refine Lib.wpList_append_run _ rfl (.tmp 20) (.tmp 21) 25 3 rfl _ _ rfl rfl _ _ (hrz.out _) ?_)
  go_ret
  exact HP.out
theorem grow_any (n : Nat) (w : World) (hn : n ≤ 1000000) : Calls Try.prog 51 #[.slice none 0 0, .int .i64 (n : Int)] w (GrowP w) := by
  by_cases h : n = 0
  · subst h; exact grow_zero w
  · exact grow_some n w (by omega) hn
/-- What an append of cells leaves. -/
def AppC (base : Nat) (v : Value) (n : Nat) (xs : List Value) (w : World) (v' : Value) (w' : World) : Prop := OwnK 27 6 w' base v' n xs ∧ w.grownBy w' v.ownBlock ∧ (v'.ownBlock = v.ownBlock ∨ v'.ownBlock = some w.heap.size)
theorem run_append_c (w : World) (base : Nat) (v : Value) (n : Nat) (xs : List Value) (hown : OwnK 27 6 w base v n xs) (ad : Addr) (k c : Nat) (cs : List Value) (hl : cs.length = k * 6) (hc : ∀ j x, cs[j]? = some x → w.cell? (ad.add j) = some x) (h1 : ∀ u ∈ cs, u.oneCell' = true)
    (hb : n + k ≤ 1000000) (hbase : base ≤ w.heap.size) : ∃ v' w', (Builtin.append_ #[25, 25] 25 #[v, .slice (some ad) k c]).run Try.prog w = .ok v' w' ∧ AppC base v (n + k) (xs ++ cs) w v' w' := by
  obtain ⟨i, hi, hz0, hz1, hz2⟩ := info_parts Try.cellsNd
  obtain ⟨v', w', hrun, k1, k2, _, k3⟩ := run_append_own_at (P := Try.prog) (w := w) base 25 25 27 i _ 6 88 Try.underlying25 hi hz0 hz1 hz2 zeroN (by omega) v n xs hown ad k c cs hl hc h1 (by unfold maxLen; omega) (by omega) hbase
  exact ⟨v', w', hrun, k1, k2, k3⟩
theorem wpList_append_c {w : World} {ops : Array Oper} {rest : List Oper} {o : Oper} {a : Act} {Q : Exit → Act → World → Prop} (hgd : o.guard = none) (s x : Operand)
    (ho : o.op = .call { callee := .builtin .append, args := #[s, x], argTypes := #[25, 25] }) (hty : o.type = 25) (base : Nat) (v : Value) (n : Nat) (xs : List Value) (hs : a.eval s = v) (hown : OwnK 27 6 w base v n xs)
    (ad : Addr) (k c : Nat) (cs : List Value) (hx : a.eval x = .slice (some ad) k c) (hl : cs.length = k * 6) (hc : ∀ j x, cs[j]? = some x → w.cell? (ad.add j) = some x) (h1 : ∀ u ∈ cs, u.oneCell' = true)
    (hb : n + k ≤ 1000000) (hbase : base ≤ w.heap.size) (hK : ∀ v' w', AppC base v (n + k) (xs ++ cs) w v' w' → wpList Try.prog ops Q rest (a.put o.dst v') w') : wpList Try.prog ops Q (o :: rest) a w := by
  obtain ⟨v', w', hrun, h⟩ := run_append_c w base v n xs hown ad k c cs hl hc h1 hb hbase
  refine wpList_plain hgd fun _ hK' => ?_
  unfold Oper.wp execOp
  simp only [ho, hty, resolve, invoke, builtin, Sem.run_bind, Sem.run_pure, Result.andThen_ok, List.map_toArray, List.map_cons, List.map_nil, hs, hx, hrun]
  exact hK' _ _ (hK v' w' h)
/-- What Concat of two rows leaves. -/
def CatP (n : Nat) (cs : List Value) (w : World) (r : Ending) (w' : World) : Prop := ∃ v, r = .returned v ∧ OwnK 27 6 w' w.heap.size v n cs ∧ Below w.heap.size w w'
set_option maxRecDepth 100000 in
set_option maxHeartbeats 4000000 in
theorem cat_any (e : Nat) (ad1 ad2 : Addr) (k1 k2 c1 c2 : Nat) (cs1 cs2 : List Value) (w : World) (he : Blk w e 25 #[.slice (some ad1) k1 c1, .slice (some ad2) k2 c2]) (hl1 : cs1.length = k1 * 6) (hl2 : cs2.length = k2 * 6)
    (hc1 : ∀ j x, cs1[j]? = some x → w.cell? (ad1.add j) = some x) (hc2 : ∀ j x, cs2[j]? = some x → w.cell? (ad2.add j) = some x) (ho1 : ∀ u ∈ cs1, u.oneCell' = true) (ho2 : ∀ u ∈ cs2, u.oneCell' = true) (hk : k1 + k2 ≤ 1000000) :
    Calls Try.prog 40 #[.slice (some ⟨e, 0, none⟩) 2 2] w (CatP (k1 + k2) (cs1 ++ cs2) w) := by
  have up : ∀ (ad : Addr) (cs : List Value), (∀ j x, cs[j]? = some x → w.cell? (ad.add j) = some x) → ∀ W, Below w.heap.size w W → ∀ j x, cs[j]? = some x → W.cell? (ad.add j) = some x := fun ad cs h W hW j x hj => by
    have h1 := h j x hj
    exact (hW.cell (p := ad.add j) (World.block_lt_of_cell? w _ h1)).trans h1
  have HU1 := Lib.hid (up ad1 cs1 hc1)
  have HU2 := Lib.hid (up ad2 cs2 hc2)
  have HE : Hid (∀ W, Below w.heap.size w W → W.cell? ⟨e, 0, none⟩ = some (.slice (some ad1) k1 c1) ∧ W.cell? ⟨e, 1, none⟩ = some (.slice (some ad2) k2 c2)) := Lib.hid (fun W hW => ⟨((he.below hW he.lt).cell 0).trans rfl, ((he.below hW he.lt).cell 1).trans rfl⟩)
  obtain ⟨q0, q1⟩ := HE.out w (Below.refl _ _)
  have HL := Lib.hid (And.intro (And.intro hl1 hl2) (And.intro ho1 ho2))
  have HG : Hid (Calls Try.prog 51 #[.slice none 0 0, .int .i64 ((k1 : Int) + (k2 : Int))] w (GrowP w)) := Lib.hid (by
    have h := grow_any (k1 + k2) w hk
    rw [Int.natCast_add] at h
    exact h)
  have i1 : (0 : Int) ≤ (k1 : Int) := by omega
  have i2 : (0 : Int) ≤ (k2 : Int) := by omega
  have i3 : (k1 : Int) + (k2 : Int) ≤ 1000000 := by omega
  have i4 : ¬ (k1 : Int) < 0 := by omega
  have i5 : ¬ (k1 : Int) + (k2 : Int) < 0 := by omega
  have i6 : (k1 : Int) ≤ 1000000 := by omega
  have HK := Lib.hid hk
  clear he hl1 hl2 hc1 hc2 ho1 ho2 up hk
  go_enter Try.func40, Try.ntmps40
  go_wp2
  refine wp_loop_rounds 3 ?_
  rw [rounds_succ]
  go_wp2
  rw [rounds_succ]
  go_wp2
  rw [rounds_succ]
  go_wp2_with fail
  refine HG.out.mono ?_
  rintro r w2 ⟨v2, rfl, hown, hb2⟩
  obtain ⟨A2, c3, rfl⟩ := hown.shape
  have HO2 := Lib.hid hown
  have HB2 := Lib.hid hb2
  obtain ⟨p0, p1⟩ := HE.out w2 hb2
  clear hown hb2 q0 q1
  go_wp2
  refine wp_loop_rounds 3 ?_
  rw [rounds_succ]
  go_wp2_with (at_builtin; refine wpList_append_c rfl (.tmp 31) (.tmp 32) rfl rfl w.heap.size (.slice A2 0 c3) 0 [] rfl HO2.out ad1 k1 c1 cs1 rfl HL.out.1.1 (HU1.out _ HB2.out) HL.out.2.1 (by have := HK.out; omega) HB2.out.size ?_)
  intro v3 w3 hap
  have hb3 : Below w.heap.size w w3 := HB2.out.trans ((Below.refl _ _).grown hap.2.1 HB2.out.size (fun b e => (HO2.out.lt b e).1))
  obtain ⟨A3, c4, e3⟩ := hap.1.shape
  (try simp only [Nat.zero_add] at e3)
  subst e3
  have ho3 : OwnK 27 6 w3 w.heap.size (.slice A3 k1 c4) k1 cs1 := by
    have h := hap.1
    (try simp only [Nat.zero_add, List.nil_append] at h)
    exact h
  have HO3 := Lib.hid ho3
  have HB3 := Lib.hid hb3
  obtain ⟨q0, q1⟩ := HE.out w3 hb3
  clear hap hb3 ho3 p0 p1
  go_wp2
  rw [rounds_succ]
  go_wp2_with (at_builtin; refine wpList_append_c rfl (.tmp 31) (.tmp 32) rfl rfl w.heap.size (.slice A3 k1 c4) k1 cs1 rfl HO3.out ad2 k2 c2 cs2 rfl HL.out.1.2 (HU2.out _ HB3.out) HL.out.2.2 HK.out HB3.out.size ?_)
  intro v4 w4 hap
  have hb4 : Below w.heap.size w w4 := HB3.out.trans ((Below.refl _ _).grown hap.2.1 HB3.out.size (fun b e => (HO3.out.lt b e).1))
  have HP : Hid (CatP (k1 + k2) (cs1 ++ cs2) w (.returned v4) w4) := Lib.hid ⟨v4, rfl, hap.1, hb4⟩
  obtain ⟨v5, hv5⟩ : ∃ v5, v5 = v4 := ⟨_, rfl⟩
  subst hv5
  clear hap hb4 q0 q1
  go_wp2
  rw [rounds_succ]
  go_wp2
  go_ret
  exact HP.out
theorem withF_del {f : NdF} {i : Nat} : withF f i 1 .nil = (Fr.take i f).app (Fr.drop (i + 1) f) := by
  unfold withF
  rfl
theorem cut_sit {w w3 : World} {base g o i : Nat} {pa : NdD} {pf : NdF} {xs1 xs2 : List Value} {z : Nd} {v v' : Value} {F1 Fk F2 : List Nat}
    (hcl : ∀ j u, (ndC pa v)[j]? = some u → w.cell? ⟨g, o + j, none⟩ = some u) (hi : pf.get? i = some z) (hT1 : OwnT w base (Fr.take i pf) xs1 F1) (hT2 : OwnT w base (Fr.drop (i + 1) pf) xs2 F2)
    (hnd : (v.ownBlock.toList ++ (F1 ++ (Fk ++ F2))).Nodup) (hg : g ∉ v.ownBlock.toList ++ (F1 ++ (Fk ++ F2))) (hgf : Fresh9 base w g) (hB : Below w.heap.size w w3) (hbs : base ≤ w.heap.size)
    (hI : OwnK 27 6 w3 base v' (pf.len - 1) (xs1 ++ xs2)) (hv' : ∀ h, v'.ownBlock = some h → w.heap.size ≤ h) :
    ChgN base g o (pa, withF pf i 1 .nil) (v.ownBlock.toList ++ (F1 ++ (Fk ++ F2))) [] w (w3.setCell ⟨g, o + 5, none⟩ v') := by
  have hgl := hgf.lt
  have hnd2 := (List.nodup_append.1 hnd).2.1
  simp only [List.nodup_append, List.mem_append] at hnd2
  obtain ⟨nd1, ⟨-, nd2, -⟩, nd12⟩ := hnd2
  have hF1 : ∀ h, h ∈ F1 → h < w.heap.size := fun h hh => (hT1.fresh h hh).lt
  have hF2 : ∀ h, h ∈ F2 → h < w.heap.size := fun h hh => (hT2.fresh h hh).lt
  have hg1 : g ∉ F1 := fun h => hg (by simp [h])
  have hg2 : g ∉ F2 := fun h => hg (by simp [h])
  have kept : ∀ h, h < w.heap.size → h ≠ g → (w3.setCell ⟨g, o + 5, none⟩ v').heap[h]? = w.heap[h]? := fun h hh h1 => (Below.heap_setCell _ _ _ _ h1).trans (hB.block h hh)
  obtain ⟨hgb, cs, t, hcs⟩ := hgf
  have hcs3 : w3.heap[g]? = some (.cells cs t (0, 0)) := (hB.block g hgl).trans hcs
  have hset : (w3.setCell ⟨g, o + 5, none⟩ v').heap[g]? = some (.cells (cs.setIfInBounds (o + 5) v') t (0, 0)) := by simp [World.setCell, Array.getElem?_modify, hcs3]
  have hsz5 : o + 5 < cs.size := by
    have := hcl 5 v rfl
    rw [cell_of_row w g (o + 5) cs t (0, 0) hcs] at this
    exact (Array.getElem?_eq_some_iff.1 this).1
  have hlen : (withF pf i 1 .nil).len = pf.len - 1 := by
    have h1 := Fr.get_lt hi
    have h2 := with_len (f := pf) (l := .nil) (a := i) (m := 1) (by omega)
    simp only [Fr.len] at h2
    omega
  refine ⟨v'.ownBlock.toList ++ (F1 ++ F2), ⟨v', fun j u hu => ?_, xs1 ++ xs2, F1 ++ F2, rfl, ?_, ?_⟩, ?_, ?_, ?_, ?_, ?_, ?_⟩
  · have hj : j < 6 := (List.getElem?_eq_some_iff.1 hu).1
    rw [cell_of_row _ g (o + j) _ t (0, 0) hset]
    by_cases h5 : j = 5
    · subst h5
      rw [Array.getElem?_setIfInBounds, if_pos rfl, if_pos hsz5]
      exact hu
    · rw [Array.getElem?_setIfInBounds, if_neg (by omega), ← cell_of_row w g (o + j) cs t (0, 0) hcs]
      refine hcl j u ?_
      have : j = 0 ∨ j = 1 ∨ j = 2 ∨ j = 3 ∨ j = 4 := by omega
      rcases this with rfl | rfl | rfl | rfl | rfl <;> exact hu
  · rw [hlen]
    exact hI.keep (fun h e => Below.heap_setCell _ _ _ _ (by have := hv' h e; show h ≠ g; omega))
  · rw [withF_del]
    exact OwnT.app (hT2.keep (Nat.le_refl _) (fun h hh => kept h (hF2 h hh) (fun e => hg2 (e ▸ hh)))) (hT1.keep (Nat.le_refl _) (fun h hh => kept h (hF1 h hh) (fun e => hg1 (e ▸ hh))))
  · have hin : (F1 ++ F2).Nodup := List.nodup_append.2 ⟨nd1, nd2, fun p hp r hr => nd12 p hp r (.inr hr)⟩
    cases e : v'.ownBlock with
    | none => simpa using hin
    | some h =>
      simp only [Option.toList, List.cons_append, List.nil_append, List.nodup_cons, List.mem_append, not_or]
      have := hv' h e
      exact ⟨⟨fun hm => by have := hF1 h hm; omega, fun hm => by have := hF2 h hm; omega⟩, hin⟩
  · intro hm
    simp only [List.mem_append, Option.mem_toList] at hm
    rcases hm with hm | hm | hm
    · have := hv' g hm; omega
    · exact hg1 hm
    · exact hg2 hm
  · intro h hm
    simp only [List.mem_append, Option.mem_toList] at hm ⊢
    rcases hm with hm | hm | hm
    · exact .inr (.inr (hv' h hm))
    · exact .inl (.inr (.inl hm))
    · exact .inl (.inr (.inr (.inr hm)))
  · exact ⟨cs, _, t, hcs, hset, by simp, fun j hj => by rw [Array.getElem?_setIfInBounds, if_neg (by omega)]⟩
  · intro h hh h1 h2
    exact kept h hh h1
  · exact (hB.mono hbs).setCell (p := ⟨g, o + 5, none⟩) hgb _
end Go.Proofs.Ytgipnemcmiohlaa
namespace Go.Proofs.Ytgipnemcmiohlaa
open Go.RowKit
set_option linter.unusedSimpArgs false
set_option linter.unusedVariables false
/-- What Cut is to leave. -/
def CutR (a : NdD) (f : NdF) (l : List Stp) (w : World) (r : Ending) (w' : World) : Prop := TreP (CutX (a, f) l).1 (.int .i64 ((CutX (a, f) l).2 : Int)) w r w'
theorem cutR_no {a : NdD} {f : NdF} {l : List Stp} {w w' : World} {r : Ending} (h : l = [] ∨ getX (a, f) l = none) (hT : TreP noN (.int .i64 30) w r w') : CutR a f l w r w' := by
  have e : CutX (a, f) l = (noN, 30) := by
    unfold CutX
    by_cases hl : l = []
    · rw [if_pos hl]
    · rw [if_neg hl]
      rcases h with h | h
      · exact absurd h hl
      · rw [h]
  unfold CutR
  rw [e]
  exact hT
theorem cutR_ok {a : NdD} {f : NdF} {l : List Stp} {z : Nd} {w w' : World} {r : Ending} (hl : l ≠ []) (h : getX (a, f) l = some z) (hT : TreP (cutX (a, f) l) (.int .i64 0) w r w') : CutR a f l w r w' := by
  unfold CutR
  rw [CutX_is hl h]
  exact hT
theorem getX_app {s : Stp} : ∀ (l : List Stp) (x : Nd), getX x (l ++ [s]) = (getX x l).bind (fun p => gtF s p.2) := by
  intro l
  induction l with
  | nil =>
    intro x
    simp only [List.nil_append, getX, Option.bind]
    cases gtF s x.2 <;> rfl
  | cons t l ih =>
    intro x
    simp only [List.cons_append, getX]
    cases gtF t x.2 with
    | none => rfl
    | some z => exact ih z
set_option maxRecDepth 100000 in
set_option maxHeartbeats 1000000 in
theorem dcut_nil (a : NdD) (f : NdF) (A B : Option Addr) (c m : Nat) (w : World) (hk : RowT w.heap.size w (.slice A f.len c) f) :
    Calls Try.prog 24 #[.agg #[.string (txt a.name), .string (txt a.key), .int .i64 a.kind, .int .u64 (a.num : Int), .string (txt a.text), .slice A f.len c], .slice B 0 m] w (CutR a f [] w) := by
  obtain ⟨l, hl⟩ : ∃ l : List Stp, l = [] := ⟨_, rfl⟩
  rw [← hl]
  obtain ⟨h1, h2, h3, h4⟩ := get_boxes a f A c w (LieB.make hk)
  have HZ0 := Lib.hid h2
  have HB0 := Lib.hid h3
  have HL := Lib.hid hl
  clear h1 h2 h3 h4 hl
  go_enter Try.func24, Try.ntmps24
  have HQ : Hid (CutR a f l w (.returned (.tuple #[.agg #[.string ⟨#[]⟩, .string ⟨#[]⟩, .int .i64 0, .int .u64 0, .string ⟨#[]⟩, .slice none 0 0], .int .i64 30])) ((w.alloc (.cells #[.string (txt a.name), .string (txt a.key), .int .i64 a.kind, .int .u64 (a.num : Int), .string (txt a.text), .slice A f.len c] 27)).alloc (.cells #[.string ⟨#[]⟩, .string ⟨#[]⟩, .int .i64 0, .int .u64 0, .string ⟨#[]⟩, .slice none 0 0] 27))) := Lib.hid (cutR_no (.inl HL.out) ⟨_, rfl, OwnU.new (a := zeroT) (k := .nil) ⟨[], [], rfl, OwnK.nil _ _ _ _, rfl, rfl⟩, HB0.out⟩)
  go_wp2
  refine bodyPost_ret (res_ct9 rfl _ _ (w.heap.size + 1) 27 _ (0, 0) _ rfl HZ0.out Try.underlying27 rfl (by kernel_rfl)) rfl ?_
  exact HQ.out
set_option maxRecDepth 100000 in
set_option maxHeartbeats 4000000 in
theorem dcut_go (a : NdD) (f : NdF) (A B : Option Addr) (c m n : Nat) (l : List Stp) (sl : Stp) (w : World) (hk : RowT w.heap.size w (.slice A f.len c) f) (hf : f.size ≤ 1000000) (hv : WayV w.heap.size w (.slice B (n + 1) m) l) (hs : l[n]? = some sl) (hll : l.length ≤ 1000000) :
    Calls Try.prog 24 #[.agg #[.string (txt a.name), .string (txt a.key), .int .i64 a.kind, .int .u64 (a.num : Int), .string (txt a.text), .slice A f.len c], .slice B (n + 1) m] w (CutR a f l w) := by
  obtain ⟨h1, h2, h3, h4⟩ := get_boxes a f A c w (LieB.make hk)
  obtain ⟨gv, ov, rfl, hvn, hvm, hgv, ht0, ht1⟩ := hv.at hs
  have hn : l.length = n + 1 := hvn.symm
  have HWAY : Hid (∀ W, Below w.heap.size w W → W.cell? ⟨gv, ov + n * 2, none⟩ = some (.string (txt sl.1)) ∧ W.cell? ⟨gv, ov + n * 2 + 1, none⟩ = some (.string (txt sl.2))) := Lib.hid (fun W hW => ⟨(hW.cell (p := ⟨gv, ov + n * 2, none⟩) hgv).trans ht0, (hW.cell (p := ⟨gv, ov + n * 2 + 1, none⟩) hgv).trans ht1⟩)
  have i1 : (0 : Int) ≤ (n : Int) := by omega
  have i2 : (n : Int) ≤ 1000000 := by omega
  have i3 : (n : Int) < (n : Int) + 1 := by omega
  have i4 : decide ((n : Int) < 0) = false := decide_eq_false (by omega)
  have i5 : ¬ (n : Int) < 0 := by omega
  have i6 : (n : Int) ≤ (m : Int) := by omega
  have hs0 : ((w.alloc (.cells #[.string (txt a.name), .string (txt a.key), .int .i64 a.kind, .int .u64 (a.num : Int), .string (txt a.text), .slice A f.len c] 27)).alloc (.cells #[.string ⟨#[]⟩, .string ⟨#[]⟩, .int .i64 0, .int .u64 0, .string ⟨#[]⟩, .slice none 0 0] 27)).heap.size = w.heap.size + 2 := by simp
  have HQ0 : Hid (Blk ((w.alloc (.cells #[.string (txt a.name), .string (txt a.key), .int .i64 a.kind, .int .u64 (a.num : Int), .string (txt a.text), .slice A f.len c] 27)).alloc (.cells #[.string ⟨#[]⟩, .string ⟨#[]⟩, .int .i64 0, .int .u64 0, .string ⟨#[]⟩, .slice none 0 0] 27)) w.heap.size 27 #[.string (txt a.name), .string (txt a.key), .int .i64 a.kind, .int .u64 (a.num : Int), .string (txt a.text), .slice A f.len c] ∧ Blk ((w.alloc (.cells #[.string (txt a.name), .string (txt a.key), .int .i64 a.kind, .int .u64 (a.num : Int), .string (txt a.text), .slice A f.len c] 27)).alloc (.cells #[.string ⟨#[]⟩, .string ⟨#[]⟩, .int .i64 0, .int .u64 0, .string ⟨#[]⟩, .slice none 0 0] 27)) (w.heap.size + 1) 27 #[.string ⟨#[]⟩, .string ⟨#[]⟩, .int .i64 0, .int .u64 0, .string ⟨#[]⟩, .slice none 0 0] ∧ w.heap.size + 2 ≤ ((w.alloc (.cells #[.string (txt a.name), .string (txt a.key), .int .i64 a.kind, .int .u64 (a.num : Int), .string (txt a.text), .slice A f.len c] 27)).alloc (.cells #[.string ⟨#[]⟩, .string ⟨#[]⟩, .int .i64 0, .int .u64 0, .string ⟨#[]⟩, .slice none 0 0] 27)).heap.size) := Lib.hid ⟨h1, h2, Nat.le_of_eq hs0.symm⟩
  have HB0 : Hid (Below w.heap.size w ((w.alloc (.cells #[.string (txt a.name), .string (txt a.key), .int .i64 a.kind, .int .u64 (a.num : Int), .string (txt a.text), .slice A f.len c] 27)).alloc (.cells #[.string ⟨#[]⟩, .string ⟨#[]⟩, .int .i64 0, .int .u64 0, .string ⟨#[]⟩, .slice none 0 0] 27))) := Lib.hid h3
  have HCN : Hid (Calls Try.prog 28 #[.agg #[.string (txt a.name), .string (txt a.key), .int .i64 a.kind, .int .u64 (a.num : Int), .string (txt a.text), .slice A f.len c]] ((w.alloc (.cells #[.string (txt a.name), .string (txt a.key), .int .i64 a.kind, .int .u64 (a.num : Int), .string (txt a.text), .slice A f.len c] 27)).alloc (.cells #[.string ⟨#[]⟩, .string ⟨#[]⟩, .int .i64 0, .int .u64 0, .string ⟨#[]⟩, .slice none 0 0] 27)) (CopP a f ((w.alloc (.cells #[.string (txt a.name), .string (txt a.key), .int .i64 a.kind, .int .u64 (a.num : Int), .string (txt a.text), .slice A f.len c] 27)).alloc (.cells #[.string ⟨#[]⟩, .string ⟨#[]⟩, .int .i64 0, .int .u64 0, .string ⟨#[]⟩, .slice none 0 0] 27)))) := Lib.hid (copy_any f a A c ((w.alloc (.cells #[.string (txt a.name), .string (txt a.key), .int .i64 a.kind, .int .u64 (a.num : Int), .string (txt a.text), .slice A f.len c] 27)).alloc (.cells #[.string ⟨#[]⟩, .string ⟨#[]⟩, .int .i64 0, .int .u64 0, .string ⟨#[]⟩, .slice none 0 0] 27)) (hk.under h3 (Nat.le_refl _) h3.size) hf)
  have hll2 : l = l.take n ++ [sl] := by
    have h1 := List.take_append_drop n l
    have h2 : l.drop n = [sl] := by
      rw [List.drop_eq_getElem_cons (by omega), List.drop_eq_nil_of_le (by omega)]
      rw [List.getElem?_eq_getElem (by omega)] at hs
      injection hs with hs
      rw [hs]
    rw [h2] at h1
    exact h1.symm
  have HLNE : Hid (l ≠ []) := Lib.hid (fun e => by rw [e] at hn; simp at hn)
  have HLL2 := Lib.hid hll2
  have HF := Lib.hid hf
  have hvf := WayV.front n (by omega) hv
  have HVF : Hid (∀ W, Below w.heap.size w W → WayV W.heap.size W (.slice (some ⟨gv, ov, none⟩) n m) (l.take n)) := Lib.hid (fun W hW => hvf.under hW (Nat.le_refl _) hW.size)
  have HTL : Hid ((l.take n).length ≤ 1000000) := Lib.hid (by rw [List.length_take]; omega)
  have q0 := (h1.cell 0).trans rfl
  have q1 := (h1.cell 1).trans rfl
  have q2 := (h1.cell 2).trans rfl
  have q3 := (h1.cell 3).trans rfl
  have q4 := (h1.cell 4).trans rfl
  have q5 := (h1.cell 5).trans rfl
  clear h1 h2 h3 h4 hs0 hv hs hll hvn hvm hgv ht0 ht1 hn hk hf hll2 hvf
  go_enter Try.func24, Try.ntmps24
  go_wp2_with fail
  refine HCN.out.mono ?_
  rintro r w3 ⟨v1, F1, rfl, hU, hnd, hb3⟩
  obtain ⟨A1, c1, rfl⟩ := hU.shape
  have HX3 := Lib.hid (HQ0.out.1.below hb3 HQ0.out.1.lt)
  have HQ3 : Hid (Blk (set6 w3 w.heap.size (.string (txt a.name)) (.string (txt a.key)) (.int .i64 a.kind) (.int .u64 (a.num : Int)) (.string (txt a.text)) (.slice A1 f.len c1)) w.heap.size 27 #[.string (txt a.name), .string (txt a.key), .int .i64 a.kind, .int .u64 (a.num : Int), .string (txt a.text), .slice A1 f.len c1] ∧ Blk (set6 w3 w.heap.size (.string (txt a.name)) (.string (txt a.key)) (.int .i64 a.kind) (.int .u64 (a.num : Int)) (.string (txt a.text)) (.slice A1 f.len c1)) (w.heap.size + 1) 27 #[.string ⟨#[]⟩, .string ⟨#[]⟩, .int .i64 0, .int .u64 0, .string ⟨#[]⟩, .slice none 0 0] ∧ w.heap.size + 2 ≤ (set6 w3 w.heap.size (.string (txt a.name)) (.string (txt a.key)) (.int .i64 a.kind) (.int .u64 (a.num : Int)) (.string (txt a.text)) (.slice A1 f.len c1)).heap.size) := Lib.hid ⟨HX3.out.set6 _ _ _ _ _ _,
    (set6_other (by omega)).trans (HQ0.out.2.1.below hb3 HQ0.out.2.1.lt), by rw [set6_size]; exact Nat.le_trans HQ0.out.2.2 hb3.size⟩
  have HB3 : Hid (Below w.heap.size w (set6 w3 w.heap.size (.string (txt a.name)) (.string (txt a.key)) (.int .i64 a.kind) (.int .u64 (a.num : Int)) (.string (txt a.text)) (.slice A1 f.len c1))) := Lib.hid ((HB0.out.trans (hb3.mono HB0.out.size)).trans (set6_below (Nat.le_refl _)))
  have hF1 : ∀ h, h ∈ F1 → w.heap.size + 2 ≤ h := fun h hh => Nat.le_trans HQ0.out.2.2 (hU.fresh h hh).1
  have HU3 : Hid (OwnU (set6 w3 w.heap.size (.string (txt a.name)) (.string (txt a.key)) (.int .i64 a.kind) (.int .u64 (a.num : Int)) (.string (txt a.text)) (.slice A1 f.len c1)) w.heap.size (.slice A1 f.len c1) f F1) := Lib.hid (hU.keep (fun h hh => set6_other (by have := hF1 h hh; omega)) HB0.out.size)
  have HF1 := Lib.hid hF1
  have HND := Lib.hid hnd
  have HAT : Hid (Calls Try.prog 34 #[.pointer (some ⟨w.heap.size, 0, none⟩), .slice (some ⟨gv, ov, none⟩) n m] (set6 w3 w.heap.size (.string (txt a.name)) (.string (txt a.key)) (.int .i64 a.kind) (.int .u64 (a.num : Int)) (.string (txt a.text)) (.slice A1 f.len c1)) (AtP (a, f) (l.take n) w.heap.size 0 (set6 w3 w.heap.size (.string (txt a.name)) (.string (txt a.key)) (.int .i64 a.kind) (.int .u64 (a.num : Int)) (.string (txt a.text)) (.slice A1 f.len c1)))) := Lib.hid
    (at_any (a, f) (l.take n) w.heap.size 0 _ (set6 w3 w.heap.size (.string (txt a.name)) (.string (txt a.key)) (.int .i64 a.kind) (.int .u64 (a.num : Int)) (.string (txt a.text)) (.slice A1 f.len c1)) (node_box HQ3.out.1 (LieB.row (HU3.out.lies (a := a)))) (HVF.out _ HB3.out) HF.out HTL.out)
  have fz0 : (w3).frozen? ⟨w.heap.size, 0, none⟩ = false := HX3.out.frozen 0
  have fq0 := (HX3.out.cell 0).trans rfl
  have fz1 : (w3).frozen? ⟨w.heap.size, 1, none⟩ = false := HX3.out.frozen 1
  have fq1 := (HX3.out.cell 1).trans rfl
  have fz2 : (w3).frozen? ⟨w.heap.size, 2, none⟩ = false := HX3.out.frozen 2
  have fq2 := (HX3.out.cell 2).trans rfl
  have fz3 : (w3).frozen? ⟨w.heap.size, 3, none⟩ = false := HX3.out.frozen 3
  have fq3 := (HX3.out.cell 3).trans rfl
  have fz4 : (w3).frozen? ⟨w.heap.size, 4, none⟩ = false := HX3.out.frozen 4
  have fq4 := (HX3.out.cell 4).trans rfl
  have fz5 : (w3).frozen? ⟨w.heap.size, 5, none⟩ = false := HX3.out.frozen 5
  have fq5 := (HX3.out.cell 5).trans rfl
  clear hU hnd hb3 hF1 q0 q1 q2 q3 q4 q5
  go_wp2_with fail
  refine HAT.out.mono ?_
  rintro r w4 ⟨hb4, hcase⟩
  have HZ4 := Lib.hid (HQ3.out.2.1.below hb4 HQ3.out.2.1.lt)
  have HB4 := Lib.hid (HB3.out.trans (hb4.mono HB3.out.size))
  clear fz0 fz1 fz2 fz3 fz4 fz5 fq0 fq1 fq2 fq3 fq4 fq5
  rcases hcase with ⟨hno, rfl⟩ | ⟨⟨pa, pf⟩, g', o', hy, rfl, hnd, hpat⟩
  · have HNO : Hid (getX (a, f) l = none) := Lib.hid (by rw [HLL2.out, getX_app, hno]; rfl)
    clear hno hb4
    have fz0 : (w4).frozen? ⟨w.heap.size + 1, 0, none⟩ = false := HZ4.out.frozen 0
    have fq0 := (HZ4.out.cell 0).trans rfl
    have fz1 : (w4).frozen? ⟨w.heap.size + 1, 1, none⟩ = false := HZ4.out.frozen 1
    have fq1 := (HZ4.out.cell 1).trans rfl
    have fz2 : (w4).frozen? ⟨w.heap.size + 1, 2, none⟩ = false := HZ4.out.frozen 2
    have fq2 := (HZ4.out.cell 2).trans rfl
    have fz3 : (w4).frozen? ⟨w.heap.size + 1, 3, none⟩ = false := HZ4.out.frozen 3
    have fq3 := (HZ4.out.cell 3).trans rfl
    have fz4 : (w4).frozen? ⟨w.heap.size + 1, 4, none⟩ = false := HZ4.out.frozen 4
    have fq4 := (HZ4.out.cell 4).trans rfl
    have fz5 : (w4).frozen? ⟨w.heap.size + 1, 5, none⟩ = false := HZ4.out.frozen 5
    have fq5 := (HZ4.out.cell 5).trans rfl
    have RZ : Hid (Blk (set6 w4 (w.heap.size + 1) (.string ⟨#[]⟩) (.string ⟨#[]⟩) (.int .i64 0) (.int .u64 0) (.string ⟨#[]⟩) (.slice none 0 0)) (w.heap.size + 1) 27 #[.string ⟨#[]⟩, .string ⟨#[]⟩, .int .i64 0, .int .u64 0, .string ⟨#[]⟩, .slice none 0 0]) := Lib.hid (HZ4.out.set6 _ _ _ _ _ _)
    have HQ : Hid (CutR a f l w (.returned (.tuple #[.agg #[.string ⟨#[]⟩, .string ⟨#[]⟩, .int .i64 0, .int .u64 0, .string ⟨#[]⟩, .slice none 0 0], .int .i64 30])) (set6 w4 (w.heap.size + 1) (.string ⟨#[]⟩) (.string ⟨#[]⟩) (.int .i64 0) (.int .u64 0) (.string ⟨#[]⟩) (.slice none 0 0))) := Lib.hid (cutR_no (.inr HNO.out) (zero_tree HB4.out (by omega)))
    go_wp2
    refine bodyPost_ret (res_ct9 rfl _ _ (w.heap.size + 1) 27 _ (0, 0) _ rfl RZ.out Try.underlying27 rfl (by kernel_rfl)) rfl ?_
    exact HQ.out
  · have hcl1 : ∀ j u, (ndC a (.slice A1 f.len c1))[j]? = some u → (set6 w3 w.heap.size (.string (txt a.name)) (.string (txt a.key)) (.int .i64 a.kind) (.int .u64 (a.num : Int)) (.string (txt a.text)) (.slice A1 f.len c1)).cell? ⟨w.heap.size, 0 + j, none⟩ = some u := fun j u hu => by
      rw [Nat.zero_add, HQ3.out.1.cell]; simpa using hu
    obtain ⟨Fy, k1, k2, k3, k4, k5, k6⟩ := zip_any (set6 w3 w.heap.size (.string (txt a.name)) (.string (txt a.key)) (.int .i64 a.kind) (.int .u64 (a.num : Int)) (.string (txt a.text)) (.slice A1 f.len c1)) w.heap.size (l.take n) (a, f) (pa, pf) w.heap.size 0 g' o' F1 ⟨_, hcl1, HU3.out⟩ HND.out (fun hm => by have := HF1.out _ hm; omega) HQ3.out.1.lt hy hpat
    have hgne : g' ≠ w.heap.size + 1 ∧ w.heap.size ≤ g' ∧ True ∧ g' < (set6 w3 w.heap.size (.string (txt a.name)) (.string (txt a.key)) (.int .i64 a.kind) (.int .u64 (a.num : Int)) (.string (txt a.text)) (.slice A1 f.len c1)).heap.size := by
      rcases k5 with ⟨e, -⟩ | h
      · have := HQ3.out.1.lt; exact ⟨by omega, by omega, trivial, by omega⟩
      · have := HF1.out _ h; have := (HU3.out.fresh g' h).lt; exact ⟨by omega, by omega, trivial, by omega⟩
    have hgfr : Fresh9 w.heap.size (set6 w3 w.heap.size (.string (txt a.name)) (.string (txt a.key)) (.int .i64 a.kind) (.int .u64 (a.num : Int)) (.string (txt a.text)) (.slice A1 f.len c1)) g' := by
      rcases k5 with ⟨e, -⟩ | h
      · rw [e]; exact ⟨Nat.le_refl _, _, _, HQ3.out.1⟩
      · exact HU3.out.fresh g' h
    have hpsz : pf.len ≤ 1000000 := by
      have h1 := get_size (l.take n) (a, f) (pa, pf) hy
      have h2 := HF.out
      have h3 := Fr.len_size pf
      unfold sizeX at h1
      simp only at h1
      omega
    obtain ⟨hgl, A4, c4, hcl4, hr4⟩ := hnd.below hb4
    have HC4 : Hid (w4.drew.cell? ⟨g', o' + 5, none⟩ = some (.slice A4 pf.len c4)) := Lib.hid (hcl4 5 _ rfl)
    have HGP2 : Hid (getX (a, f) (l.take n) = some (pa, pf)) := Lib.hid hy
    have HB34 : Hid (Below (set6 w3 w.heap.size (.string (txt a.name)) (.string (txt a.key)) (.int .i64 a.kind) (.int .u64 (a.num : Int)) (.string (txt a.text)) (.slice A1 f.len c1)).heap.size (set6 w3 w.heap.size (.string (txt a.name)) (.string (txt a.key)) (.int .i64 a.kind) (.int .u64 (a.num : Int)) (.string (txt a.text)) (.slice A1 f.len c1)) w4) := Lib.hid hb4
    obtain ⟨z, hz⟩ : ∃ z, z = findIx sl pf := ⟨_, rfl⟩
    have HFI : Hid (Calls Try.prog 39 #[.slice A4 pf.len c4, .agg #[.string (txt sl.1), .string (txt sl.2)]] w4.drew (Ans9 (.int .i64 z) w4.drew)) := Lib.hid (by
      rw [hz]; exact find_any sl pf A4 c4 w4.drew (hr4.below (Below.refl _ _).drew) hpsz)
    have HZZ := Lib.hid hz
    have HZD := Lib.hid (HZ4.out.below (Below.refl _ _).drew HZ4.out.lt)
    have K1 := Lib.hid k1
    have K2 := Lib.hid k2
    have K3 := Lib.hid (And.intro k3 k4)
    have K6 := Lib.hid k6
    have HGN := Lib.hid hgne
    have HGR := Lib.hid hgfr
    have HPS := Lib.hid hpsz
    clear hy hnd hpat hcl1 k1 k2 k3 k4 k5 k6 hgne hgfr hpsz hgl hcl4 hr4 hb4 hz
    go_wp2_with fail
    refine wp_region_noPanic ?_
    refine wp_region_held_drew (S := fun _ => True) (by kernel_rfl) trivial (fun hS => ?_)
    refine held_more (S' := fun w' => w'.cell? ⟨g', o' + 5, none⟩ = some (.slice A4 pf.len c4) ∧ (w'.cell? ⟨gv, ov + n * 2, none⟩ = some (.string (txt sl.1)) ∧ w'.cell? ⟨gv, ov + n * 2 + 1, none⟩ = some (.string (txt sl.2)))) (fun _ _ => trivial) _ _ _ _ ?_
    replace hS := And.intro HC4.out (HWAY.out _ HB4.out.drew)
    refine wpAnyH_take (i := 0) (oi := ?o1_0_1) (v := ?v1_0_1) ?i1_0_1 (by kernel_rfl) (by kernel_rfl) (by kernel_rfl) (fun _ _ _ h => h) (Or.inl ⟨?g1_0_1, ?y1_0_1⟩) hS ?_
    case i1_0_1 => simp only [List.getElem?_toArray, List.getElem?_cons_succ, List.getElem?_cons_zero]; rfl
    case g1_0_1 => rfl
    case y1_0_1 => (intro w hSw; (go_simp <;> with_reducible rfl))
    (try simp only [Act.put, List.setIfInBounds_toArray, List.set_cons_zero, List.set_cons_succ])
    refine wpAnyH_take (i := 1) (oi := ?o1_1_2) (v := ?v1_1_2) ?i1_1_2 (by kernel_rfl) (by kernel_rfl) (by kernel_rfl) (fun _ _ _ h => h) (Or.inl ⟨?g1_1_2, ?y1_1_2⟩) hS ?_
    case i1_1_2 => simp only [List.getElem?_toArray, List.getElem?_cons_succ, List.getElem?_cons_zero]; rfl
    case g1_1_2 => rfl
    case y1_1_2 => (intro w hSw; (go_simp <;> with_reducible rfl))
    (try simp only [Act.put, List.setIfInBounds_toArray, List.set_cons_zero, List.set_cons_succ])
    refine wpAnyH_take (i := 2) (oi := ?o1_2_3) (v := ?v1_2_3) ?i1_2_3 (by kernel_rfl) (by kernel_rfl) (by kernel_rfl) (fun _ _ _ h => h) (Or.inl ⟨?g1_2_3, ?y1_2_3⟩) hS ?_
    case i1_2_3 => simp only [List.getElem?_toArray, List.getElem?_cons_succ, List.getElem?_cons_zero]; rfl
    case g1_2_3 => rfl
    case y1_2_3 => (intro w hSw; (go_simp <;> with_reducible rfl))
    (try simp only [Act.put, List.setIfInBounds_toArray, List.set_cons_zero, List.set_cons_succ])
    refine wpAnyH_take (i := 3) (oi := ?o1_3_4) (v := ?v1_3_4) ?i1_3_4 (by kernel_rfl) (by kernel_rfl) (by kernel_rfl) (fun _ _ _ h => h) (Or.inl ⟨?g1_3_4, ?y1_3_4⟩) hS ?_
    case i1_3_4 => simp only [List.getElem?_toArray, List.getElem?_cons_succ, List.getElem?_cons_zero]; rfl
    case g1_3_4 => rfl
    case y1_3_4 => (intro w hSw; have q5 := hSw.1; (go_simp <;> with_reducible rfl))
    (try simp only [Act.put, List.setIfInBounds_toArray, List.set_cons_zero, List.set_cons_succ])
    refine wpAnyH_take (i := 4) (oi := ?o1_4_5) (v := ?v1_4_5) ?i1_4_5 (by kernel_rfl) (by kernel_rfl) (by kernel_rfl) (fun _ _ _ h => h) (Or.inl ⟨?g1_4_5, ?y1_4_5⟩) hS ?_
    case i1_4_5 => simp only [List.getElem?_toArray, List.getElem?_cons_succ, List.getElem?_cons_zero]; rfl
    case g1_4_5 => rfl
    case y1_4_5 => (intro w hSw; (go_simp <;> with_reducible rfl))
    (try simp only [Act.put, List.setIfInBounds_toArray, List.set_cons_zero, List.set_cons_succ])
    refine wpAnyH_take (i := 5) (oi := ?o1_5_6) (v := ?v1_5_6) ?i1_5_6 (by kernel_rfl) (by kernel_rfl) (by kernel_rfl) (fun _ _ _ h => h) (Or.inl ⟨?g1_5_6, ?y1_5_6⟩) hS ?_
    case i1_5_6 => simp only [List.getElem?_toArray, List.getElem?_cons_succ, List.getElem?_cons_zero]; rfl
    case g1_5_6 => rfl
    case y1_5_6 => (intro w hSw; (go_simp <;> with_reducible rfl))
    (try simp only [Act.put, List.setIfInBounds_toArray, List.set_cons_zero, List.set_cons_succ])
    refine wpAnyH_take (i := 6) (oi := ?o1_6_7) (v := ?v1_6_7) ?i1_6_7 (by kernel_rfl) (by kernel_rfl) (by kernel_rfl) (fun _ _ _ h => h) (Or.inl ⟨?g1_6_7, ?y1_6_7⟩) hS ?_
    case i1_6_7 => simp only [List.getElem?_toArray, List.getElem?_cons_succ, List.getElem?_cons_zero]; rfl
    case g1_6_7 => rfl
    case y1_6_7 => (intro w hSw; (go_simp <;> with_reducible rfl))
    (try simp only [Act.put, List.setIfInBounds_toArray, List.set_cons_zero, List.set_cons_succ])
    refine wpAnyH_take (i := 7) (oi := ?o1_7_8) (v := ?v1_7_8) ?i1_7_8 (by kernel_rfl) (by kernel_rfl) (by kernel_rfl) (fun _ _ _ h => h) (Or.inl ⟨?g1_7_8, ?y1_7_8⟩) hS ?_
    case i1_7_8 => simp only [List.getElem?_toArray, List.getElem?_cons_succ, List.getElem?_cons_zero]; rfl
    case g1_7_8 => rfl
    case y1_7_8 => (intro w hSw; have q0 := hSw.2.1; have q1 := hSw.2.2; (go_simp <;> with_reducible rfl))
    (try simp only [Act.put, List.setIfInBounds_toArray, List.set_cons_zero, List.set_cons_succ])
    refine wpAnyH_ready (rs := [8]) (by kernel_rfl) (by simp) ?_
    refine (AllReadyH.cons (o := ?or1_9_8) ?ir1_9_8 (fun K hK => ?str1_9_8) AllReadyH.nil)
    case ir1_9_8 => simp only [List.getElem?_toArray, List.getElem?_cons_succ, List.getElem?_cons_zero]; rfl
    rw [if_pos (by rfl)]
    go_simp
    refine HFI.out.mono ?_
    rintro r w5 ⟨rfl, hb5⟩
    have HB35 := Lib.hid (HB34.out.drew.trans (hb5.mono HB34.out.drew.size))
    have HB5 := Lib.hid (HB4.out.drew.trans (hb5.mono HB4.out.drew.size))
    have HZ5 := Lib.hid (HZD.out.below hb5 HZD.out.lt)
    have HC5 := Lib.hid ((hb5.cell (p := ⟨g', o' + 5, none⟩) (Nat.lt_of_lt_of_le HGN.out.2.2.2 HB34.out.drew.size)).trans HC4.out)
    clear hb5
    go_wp2_with fail
    refine hK.out _ _ ?sr1_9_8 (fun hS => ?_)
    case sr1_9_8 => (exact ⟨HC5.out, HWAY.out _ HB5.out⟩)
    clear hK K
    (try simp only [Act.put, List.setIfInBounds_toArray, List.set_cons_zero, List.set_cons_succ])
    refine wpAnyH_take (i := 9) (oi := ?o1_9_10) (v := ?v1_9_10) ?i1_9_10 (by kernel_rfl) (by kernel_rfl) (by kernel_rfl) (fun _ _ _ h => h) (Or.inl ⟨?g1_9_10, ?y1_9_10⟩) hS ?_
    case i1_9_10 => simp only [List.getElem?_toArray, List.getElem?_cons_succ, List.getElem?_cons_zero]; rfl
    case g1_9_10 => rfl
    case y1_9_10 => (intro w hSw; (go_simp <;> with_reducible rfl))
    (try simp only [Act.put, List.setIfInBounds_toArray, List.set_cons_zero, List.set_cons_succ])
    refine wpAnyH_done (by kernel_rfl) ?_ _
    refine NoPanic.normal ?_
    clear hS
    cases hfi : findN sl pf with
    | none =>
      have hz2 : z = -1 := by rw [HZZ.out]; unfold findIx; rw [hfi]
      have HNO : Hid (getX (a, f) l = none) := Lib.hid (by rw [HLL2.out, getX_app, HGP2.out]; exact findN_none hfi)
      subst hz2
      clear hfi
      have fz0 : (w5).frozen? ⟨w.heap.size + 1, 0, none⟩ = false := HZ5.out.frozen 0
      have fq0 := (HZ5.out.cell 0).trans rfl
      have fz1 : (w5).frozen? ⟨w.heap.size + 1, 1, none⟩ = false := HZ5.out.frozen 1
      have fq1 := (HZ5.out.cell 1).trans rfl
      have fz2 : (w5).frozen? ⟨w.heap.size + 1, 2, none⟩ = false := HZ5.out.frozen 2
      have fq2 := (HZ5.out.cell 2).trans rfl
      have fz3 : (w5).frozen? ⟨w.heap.size + 1, 3, none⟩ = false := HZ5.out.frozen 3
      have fq3 := (HZ5.out.cell 3).trans rfl
      have fz4 : (w5).frozen? ⟨w.heap.size + 1, 4, none⟩ = false := HZ5.out.frozen 4
      have fq4 := (HZ5.out.cell 4).trans rfl
      have fz5 : (w5).frozen? ⟨w.heap.size + 1, 5, none⟩ = false := HZ5.out.frozen 5
      have fq5 := (HZ5.out.cell 5).trans rfl
      have RZ : Hid (Blk (set6 w5 (w.heap.size + 1) (.string ⟨#[]⟩) (.string ⟨#[]⟩) (.int .i64 0) (.int .u64 0) (.string ⟨#[]⟩) (.slice none 0 0)) (w.heap.size + 1) 27 #[.string ⟨#[]⟩, .string ⟨#[]⟩, .int .i64 0, .int .u64 0, .string ⟨#[]⟩, .slice none 0 0]) := Lib.hid (HZ5.out.set6 _ _ _ _ _ _)
      have HQ : Hid (CutR a f l w (.returned (.tuple #[.agg #[.string ⟨#[]⟩, .string ⟨#[]⟩, .int .i64 0, .int .u64 0, .string ⟨#[]⟩, .slice none 0 0], .int .i64 30])) (set6 w5 (w.heap.size + 1) (.string ⟨#[]⟩) (.string ⟨#[]⟩) (.int .i64 0) (.int .u64 0) (.string ⟨#[]⟩) (.slice none 0 0))) := Lib.hid (cutR_no (.inr HNO.out) (zero_tree HB5.out (by omega)))
      go_wp2
      refine bodyPost_ret (res_ct9 rfl _ _ (w.heap.size + 1) 27 _ (0, 0) _ rfl RZ.out Try.underlying27 rfl (by kernel_rfl)) rfl ?_
      exact HQ.out
    | some i =>
      obtain ⟨⟨ka, kf⟩, hgt, -, hgf⟩ := find_stp hfi
      have hz2 : z = (i : Int) := by rw [HZZ.out]; unfold findIx; rw [hfi]
      have hi := Fr.get_lt hgt
      obtain ⟨v, hclv, hUv⟩ := K1.out
      obtain ⟨b, c9, rfl⟩ := hUv.slice_is hgt
      have hC3 : (set6 w3 w.heap.size (.string (txt a.name)) (.string (txt a.key)) (.int .i64 a.kind) (.int .u64 (a.num : Int)) (.string (txt a.text)) (.slice A1 f.len c1)).cell? ⟨g', o' + 5, none⟩ = some (.slice (some ⟨b, 0, none⟩) pf.len c9) := hclv 5 _ rfl
      have hC5 : w5.cell? ⟨g', o' + 5, none⟩ = some (.slice (some ⟨b, 0, none⟩) pf.len c9) := (HB35.out.cell (p := ⟨g', o' + 5, none⟩) HGN.out.2.2.2).trans hC3
      obtain ⟨zs, F0, hFy, hK, hT⟩ := hUv
      obtain ⟨xs1, v1, xs2, G1, Gk, G2, rfl, rfl, hx1, hT1, hUk, hT2⟩ := hT.at hgt
      obtain ⟨cur, hbk, hnc, hcm, hcs, htk, hbb⟩ := row_is hK
      have hnc : pf.len ≤ c9 := hnc
      have hx2 : xs2.length = (pf.len - (i + 1)) * 6 := by rw [hT2.len, Fr.len_drop]
      have HROW : Hid (xs1.length = i * 6 ∧ xs2.length = (pf.len - (i + 1)) * 6 ∧ (∀ u ∈ xs1, u.oneCell' = true) ∧ (∀ u ∈ xs2, u.oneCell' = true) ∧ ∀ j u, (xs1 ++ (ndC ka v1 ++ xs2))[j]? = some u → (set6 w3 w.heap.size (.string (txt a.name)) (.string (txt a.key)) (.int .i64 a.kind) (.int .u64 (a.num : Int)) (.string (txt a.text)) (.slice A1 f.len c1)).cell? ⟨b, j, none⟩ = some u) := Lib.hid
        ⟨hx1, hx2, (hT1.row (S := fun g => g ∈ G1) (fun _ h => h)).oneCell one_na, (hT2.row (S := fun g => g ∈ G2) (fun _ h => h)).oneCell one_na, fun j u hj => by
          have hjl := (List.getElem?_eq_some_iff.1 hj).1
          have := hK.1
          rw [World.ownsRow.cellAt hK j (by omega)]
          exact hj⟩
      have HBL : Hid (b < (set6 w3 w.heap.size (.string (txt a.name)) (.string (txt a.key)) (.int .i64 a.kind) (.int .u64 (a.num : Int)) (.string (txt a.text)) (.slice A1 f.len c1)).heap.size) := Lib.hid hbk.lt
      have HCUT : Hid (∀ (w6 : World) (v' : Value), Below (set6 w3 w.heap.size (.string (txt a.name)) (.string (txt a.key)) (.int .i64 a.kind) (.int .u64 (a.num : Int)) (.string (txt a.text)) (.slice A1 f.len c1)).heap.size (set6 w3 w.heap.size (.string (txt a.name)) (.string (txt a.key)) (.int .i64 a.kind) (.int .u64 (a.num : Int)) (.string (txt a.text)) (.slice A1 f.len c1)) w6 → OwnK 27 6 w6 w.heap.size v' (pf.len - 1) (xs1 ++ xs2) → (∀ h, v'.ownBlock = some h → (set6 w3 w.heap.size (.string (txt a.name)) (.string (txt a.key)) (.int .i64 a.kind) (.int .u64 (a.num : Int)) (.string (txt a.text)) (.slice A1 f.len c1)).heap.size ≤ h) → ChgN w.heap.size g' o' (pa, withF pf i 1 .nil) Fy [] (set6 w3 w.heap.size (.string (txt a.name)) (.string (txt a.key)) (.int .i64 a.kind) (.int .u64 (a.num : Int)) (.string (txt a.text)) (.slice A1 f.len c1)) (w6.setCell ⟨g', o' + 5, none⟩ v')) := Lib.hid (fun w6 v' h1 h2 h3 => by
        have hnd := K3.out.1
        have hgn := K3.out.2
        rw [hFy] at hnd hgn ⊢
        exact cut_sit hclv hgt hT1 hT2 hnd hgn HGR.out h1 HB3.out.size h2 h3)
      have HGX : Hid (getX (a, f) l = some (ka, kf)) := Lib.hid (by rw [HLL2.out, getX_app, HGP2.out]; exact hgf)
      obtain ⟨XF, hXF⟩ : ∃ XF, XF = (cutX (a, f) l).2 := ⟨_, rfl⟩
      have hcx : cutX (a, f) l = (a, XF) := by
        rw [hXF]
        exact Prod.ext cut_fst rfl
      have HCX := Lib.hid hcx
      have HXX : Hid (replX (a, f) (l.take n) (pa, withF pf i 1 .nil) = (a, XF)) := Lib.hid (by
        rw [with_del hfi, repl_cut (l.take n) (a, f) (pa, pf) sl HGP2.out, ← HLL2.out]
        exact hcx)
      have j1 : (0 : Int) ≤ (i : Int) := by omega
      have j2 : (i : Int) < (pf.len : Int) := by omega
      have j3 : decide ((i : Int) < 0) = false := decide_eq_false (by omega)
      have j4 : ¬ (i : Int) < 0 := by omega
      have j5 : (pf.len : Int) ≤ (c9 : Int) := by omega
      have j6 : (i : Int) ≤ (c9 : Int) := by omega
      have j7 : i ≤ c9 := by omega
      have j8 : (pf.len : Int) ≤ 1000000 := by have := HPS.out; omega
      have jw : IntKind.i64.wrap ((i : Int) + 1) = (i : Int) + 1 := Go.IntWalk.i64_in _ (by omega)
      have jn : ((i : Int) + 1).toNat = i + 1 := by omega
      have JW := Lib.hid (And.intro jw jn)
      have HC3 := Lib.hid hC3
      have HC5 := Lib.hid hC5
      subst hz2
      clear hfi hgt hgf hclv hC3 hC5 hFy hK hT hx1 hT1 hUk hT2 hbk hnc hcm hcs htk hbb hx2 hXF hcx jw jn
      by_cases hcc : c9 = i + 1
      · have hpl : pf.len = i + 1 := by omega
        have HPL := Lib.hid hpl
        subst hcc
        clear hpl
        go_wp2_with fail
        have HBI : Hid (Below (set6 w3 w.heap.size (.string (txt a.name)) (.string (txt a.key)) (.int .i64 a.kind) (.int .u64 (a.num : Int)) (.string (txt a.text)) (.slice A1 f.len c1)).heap.size (set6 w3 w.heap.size (.string (txt a.name)) (.string (txt a.key)) (.int .i64 a.kind) (.int .u64 (a.num : Int)) (.string (txt a.text)) (.slice A1 f.len c1)) (w5.alloc (.cells #[.slice (some ⟨b, 0, none⟩) i (i + 1), .slice (some ⟨b, 0, none⟩) 0 0] 25)).drew) := Lib.hid ((HB35.out.alloc HB35.out.size _).drew)
        have HCC : Hid (Calls Try.prog 40 #[.slice (some ⟨w5.heap.size, 0, none⟩) 2 2] (w5.alloc (.cells #[.slice (some ⟨b, 0, none⟩) i (i + 1), .slice (some ⟨b, 0, none⟩) 0 0] 25)).drew (CatP i (xs1 ++ xs2) (w5.alloc (.cells #[.slice (some ⟨b, 0, none⟩) i (i + 1), .slice (some ⟨b, 0, none⟩) 0 0] 25)).drew)) := Lib.hid (by
          obtain ⟨hx1, hx2, ho1, ho2, hce⟩ := HROW.out
          refine cat_any w5.heap.size ⟨b, 0, none⟩ ⟨b, 0, none⟩ i 0 (i + 1) 0 xs1 xs2 (w5.alloc (.cells #[.slice (some ⟨b, 0, none⟩) i (i + 1), .slice (some ⟨b, 0, none⟩) 0 0] 25)).drew (show Blk (w5.alloc (.cells #[.slice (some ⟨b, 0, none⟩) i (i + 1), .slice (some ⟨b, 0, none⟩) 0 0] 25)) w5.heap.size 25 _ from Blk.new w5 25 _) hx1 (by have := HPL.out; omega) (fun j x hj => ?_) (fun j x hj => ?_) ho1 ho2 (by omega)
          · rw [add_lit9, Nat.zero_add]
            have hjl := (List.getElem?_eq_some_iff.1 hj).1
            refine (HBI.out.cell (p := ⟨b, j, none⟩) HBL.out).trans (hce j x ?_)
            rw [List.getElem?_append_left hjl]
            exact hj
          · exact absurd (List.getElem?_eq_some_iff.1 hj).1 (by have := HPL.out; omega))
        refine wp_region_noPanic ?_
        refine wp_region_held_drew (S := fun _ => True) (by kernel_rfl) trivial (fun hS => ?_)
        replace hS := hS
        refine wpAnyH_take (i := 0) (oi := ?o2_0_1) (v := ?v2_0_1) ?i2_0_1 (by kernel_rfl) (by kernel_rfl) (by kernel_rfl) (fun _ _ _ h => h) (Or.inl ⟨?g2_0_1, ?y2_0_1⟩) hS ?_
        case i2_0_1 => simp only [List.getElem?_toArray, List.getElem?_cons_succ, List.getElem?_cons_zero]; rfl
        case g2_0_1 => rfl
        case y2_0_1 => (intro w hSw; (go_simp <;> with_reducible rfl))
        (try simp only [Act.put, List.setIfInBounds_toArray, List.set_cons_zero, List.set_cons_succ])
        refine wpAnyH_take (i := 1) (oi := ?o2_1_2) (v := ?v2_1_2) ?i2_1_2 (by kernel_rfl) (by kernel_rfl) (by kernel_rfl) (fun _ _ _ h => h) (Or.inl ⟨?g2_1_2, ?y2_1_2⟩) hS ?_
        case i2_1_2 => simp only [List.getElem?_toArray, List.getElem?_cons_succ, List.getElem?_cons_zero]; rfl
        case g2_1_2 => rfl
        case y2_1_2 => (intro w hSw; (go_simp <;> with_reducible rfl))
        (try simp only [Act.put, List.setIfInBounds_toArray, List.set_cons_zero, List.set_cons_succ])
        refine wpAnyH_take (i := 2) (oi := ?o2_2_3) (v := ?v2_2_3) ?i2_2_3 (by kernel_rfl) (by kernel_rfl) (by kernel_rfl) (fun _ _ _ h => h) (Or.inl ⟨?g2_2_3, ?y2_2_3⟩) hS ?_
        case i2_2_3 => simp only [List.getElem?_toArray, List.getElem?_cons_succ, List.getElem?_cons_zero]; rfl
        case g2_2_3 => rfl
        case y2_2_3 => (intro w hSw; (go_simp <;> with_reducible rfl))
        (try simp only [Act.put, List.setIfInBounds_toArray, List.set_cons_zero, List.set_cons_succ])
        refine wpAnyH_take (i := 3) (oi := ?o2_3_4) (v := ?v2_3_4) ?i2_3_4 (by kernel_rfl) (by kernel_rfl) (by kernel_rfl) (fun _ _ _ h => h) (Or.inl ⟨?g2_3_4, ?y2_3_4⟩) hS ?_
        case i2_3_4 => simp only [List.getElem?_toArray, List.getElem?_cons_succ, List.getElem?_cons_zero]; rfl
        case g2_3_4 => rfl
        case y2_3_4 => (intro w hSw; (go_simp <;> with_reducible rfl))
        (try simp only [Act.put, List.setIfInBounds_toArray, List.set_cons_zero, List.set_cons_succ])
        refine wpAnyH_take (i := 5) (oi := ?o2_5_5) (v := ?v2_5_5) ?i2_5_5 (by kernel_rfl) (by kernel_rfl) (by kernel_rfl) (fun _ _ _ h => h) (Or.inl ⟨?g2_5_5, ?y2_5_5⟩) hS ?_
        case i2_5_5 => simp only [List.getElem?_toArray, List.getElem?_cons_succ, List.getElem?_cons_zero]; rfl
        case g2_5_5 => rfl
        case y2_5_5 => (intro w hSw; (go_simp <;> with_reducible rfl))
        (try simp only [Act.put, List.setIfInBounds_toArray, List.set_cons_zero, List.set_cons_succ])
        refine wpAnyH_take (i := 7) (oi := ?o2_7_6) (v := ?v2_7_6) ?i2_7_6 (by kernel_rfl) (by kernel_rfl) (by kernel_rfl) (fun _ _ _ h => h) (Or.inl ⟨?g2_7_6, ?y2_7_6⟩) hS ?_
        case i2_7_6 => simp only [List.getElem?_toArray, List.getElem?_cons_succ, List.getElem?_cons_zero]; rfl
        case g2_7_6 => rfl
        case y2_7_6 => (intro w hSw; (go_simp <;> with_reducible rfl))
        (try simp only [Act.put, List.setIfInBounds_toArray, List.set_cons_zero, List.set_cons_succ])
        refine wpAnyH_take (i := 8) (oi := ?o2_8_7) (v := ?v2_8_7) ?i2_8_7 (by kernel_rfl) (by kernel_rfl) (by kernel_rfl) (fun _ _ _ h => h) (Or.inl ⟨?g2_8_7, ?y2_8_7⟩) hS ?_
        case i2_8_7 => simp only [List.getElem?_toArray, List.getElem?_cons_succ, List.getElem?_cons_zero]; rfl
        case g2_8_7 => rfl
        case y2_8_7 => (intro w hSw; (go_simp <;> with_reducible rfl))
        (try simp only [Act.put, List.setIfInBounds_toArray, List.set_cons_zero, List.set_cons_succ])
        refine wpAnyH_take (i := 9) (oi := ?o2_9_8) (v := ?v2_9_8) ?i2_9_8 (by kernel_rfl) (by kernel_rfl) (by kernel_rfl) (fun _ _ _ h => h) (Or.inl ⟨?g2_9_8, ?y2_9_8⟩) hS ?_
        case i2_9_8 => simp only [List.getElem?_toArray, List.getElem?_cons_succ, List.getElem?_cons_zero]; rfl
        case g2_9_8 => rfl
        case y2_9_8 => (intro w hSw; (go_simp <;> with_reducible rfl))
        (try simp only [Act.put, List.setIfInBounds_toArray, List.set_cons_zero, List.set_cons_succ])
        refine wpAnyH_take (i := 11) (oi := ?o2_11_9) (v := ?v2_11_9) ?i2_11_9 (by kernel_rfl) (by kernel_rfl) (by kernel_rfl) (fun _ _ _ h => h) (Or.inl ⟨?g2_11_9, ?y2_11_9⟩) hS ?_
        case i2_11_9 => simp only [List.getElem?_toArray, List.getElem?_cons_succ, List.getElem?_cons_zero]; rfl
        case g2_11_9 => rfl
        case y2_11_9 => (intro w hSw; (go_simp <;> with_reducible rfl))
        (try simp only [Act.put, List.setIfInBounds_toArray, List.set_cons_zero, List.set_cons_succ])
        refine wpAnyH_take (i := 12) (oi := ?o2_12_10) (v := ?v2_12_10) ?i2_12_10 (by kernel_rfl) (by kernel_rfl) (by kernel_rfl) (fun _ _ _ h => h) (Or.inl ⟨?g2_12_10, ?y2_12_10⟩) hS ?_
        case i2_12_10 => simp only [List.getElem?_toArray, List.getElem?_cons_succ, List.getElem?_cons_zero]; rfl
        case g2_12_10 => rfl
        case y2_12_10 => (intro w hSw; have jw := JW.out.1; (go_simp <;> with_reducible rfl))
        (try simp only [Act.put, List.setIfInBounds_toArray, List.set_cons_zero, List.set_cons_succ])
        refine wpAnyH_ready (rs := [4, 10]) (by kernel_rfl) (by simp) ?_
        refine (AllReadyH.cons (o := ?or2_11_4) ?ir2_11_4 (fun K hK => ?str2_11_4) (AllReadyH.cons (o := ?or2_11_10) ?ir2_11_10 (fun K hK => ?str2_11_10) AllReadyH.nil))
        case ir2_11_4 => simp only [List.getElem?_toArray, List.getElem?_cons_succ, List.getElem?_cons_zero]; rfl
        case ir2_11_10 => simp only [List.getElem?_toArray, List.getElem?_cons_succ, List.getElem?_cons_zero]; rfl
        case' str2_11_4 =>
          rw [if_pos (by rfl)]
          have q5 : w5.cell? ⟨g', o' + 5, none⟩ = some (.slice (some ⟨b, 0, none⟩) pf.len (i + 1)) := HC5.out
          go_simp
          refine hK.out _ _ ?sr2_11_4 (fun hS => ?_)
          case sr2_11_4 => (exact hS)
          clear hK K
          (try simp only [Act.put, List.setIfInBounds_toArray, List.set_cons_zero, List.set_cons_succ])
          refine wpAnyH_take (i := 6) (oi := ?o2_6_12) (v := ?v2_6_12) ?i2_6_12 (by kernel_rfl) (by kernel_rfl) (by kernel_rfl) (fun _ _ _ h => h) (Or.inl ⟨?g2_6_12, ?y2_6_12⟩) hS ?_
          case i2_6_12 => simp only [List.getElem?_toArray, List.getElem?_cons_succ, List.getElem?_cons_zero]; rfl
          case g2_6_12 => rfl
          case y2_6_12 => (intro w hSw; have k3 : (i : Int) ≤ (i : Int) + 1 := (by omega); (go_simp <;> with_reducible rfl))
          (try simp only [Act.put, List.setIfInBounds_toArray, List.set_cons_zero, List.set_cons_succ])
          refine wpAnyH_ready (rs := [10]) (by kernel_rfl) (by simp) ?_
          refine (AllReadyH.cons (o := ?or2_13_10) ?ir2_13_10 (fun K hK => ?str2_13_10) AllReadyH.nil)
          case ir2_13_10 => simp only [List.getElem?_toArray, List.getElem?_cons_succ, List.getElem?_cons_zero]; rfl
          rw [if_pos (by rfl)]
          have q5 : w5.cell? ⟨g', o' + 5, none⟩ = some (.slice (some ⟨b, 0, none⟩) pf.len (i + 1)) := HC5.out
          go_simp
          refine hK.out _ _ ?sr2_13_10 (fun hS => ?_)
          case sr2_13_10 => (exact hS)
          clear hK K
          (try simp only [Act.put, List.setIfInBounds_toArray, List.set_cons_zero, List.set_cons_succ])
          refine wpAnyH_take (i := 13) (oi := ?o2_13_14) (v := ?v2_13_14) ?i2_13_14 (by kernel_rfl) (by kernel_rfl) (by kernel_rfl) (fun _ _ _ h => h) (Or.inl ⟨?g2_13_14, ?y2_13_14⟩) hS ?_
          case i2_13_14 => simp only [List.getElem?_toArray, List.getElem?_cons_succ, List.getElem?_cons_zero]; rfl
          case g2_13_14 => rfl
          case y2_13_14 => (intro w hSw; have jn := JW.out.2; have k1 : (0 : Int) ≤ (i : Int) + 1 := (by omega); have k2 : (i : Int) + 1 ≤ (pf.len : Int) := (by omega); have k4 : i + 1 ≤ pf.len := (by omega); (go_simp <;> with_reducible rfl))
          (try simp only [Act.put, List.setIfInBounds_toArray, List.set_cons_zero, List.set_cons_succ])
          refine wpAnyH_ready (rs := [14]) (by kernel_rfl) (by simp) ?_
          refine (AllReadyH.cons (o := ?or2_15_14) ?ir2_15_14 (fun K hK => ?str2_15_14) AllReadyH.nil)
          case ir2_15_14 => simp only [List.getElem?_toArray, List.getElem?_cons_succ, List.getElem?_cons_zero]; rfl
          rw [if_pos (by rfl)]
          go_simp
          refine hK.out _ _ ?sr2_15_14 (fun hS => ?_)
          case sr2_15_14 => (exact hS)
          clear hK K
          (try simp only [Act.put, List.setIfInBounds_toArray, List.set_cons_zero, List.set_cons_succ])
          refine wpAnyH_ready (rs := [15]) (by kernel_rfl) (by simp) ?_
          refine (AllReadyH.cons (o := ?or2_16_15) ?ir2_16_15 (fun K hK => ?str2_16_15) AllReadyH.nil)
          case ir2_16_15 => simp only [List.getElem?_toArray, List.getElem?_cons_succ, List.getElem?_cons_zero]; rfl
          rw [if_pos (by rfl)]
          go_simp
          refine HCC.out.mono ?_
          rintro r w6 ⟨v6, rfl, k6, hb6⟩
          obtain ⟨A6, c6, rfl⟩ := k6.shape
          have HB6 := Lib.hid (HBI.out.trans (hb6.mono HBI.out.size))
          have HK6 := Lib.hid (And.intro k6 hb6)
          clear k6 hb6
          go_wp2_with fail
          refine hK.out _ _ ?sr2_16_15 (fun hS => ?_)
          case sr2_16_15 => (exact hS)
          clear hK K
          (try simp only [Act.put, List.setIfInBounds_toArray, List.set_cons_zero, List.set_cons_succ])
          refine wpAnyH_take (i := 16) (oi := ?o2_16_17) (v := ?v2_16_17) ?i2_16_17 (by kernel_rfl) (by kernel_rfl) (by kernel_rfl) (fun _ _ _ h => h) (Or.inl ⟨?g2_16_17, ?y2_16_17⟩) hS ?_
          case i2_16_17 => simp only [List.getElem?_toArray, List.getElem?_cons_succ, List.getElem?_cons_zero]; rfl
          case g2_16_17 => rfl
          case y2_16_17 => (intro w hSw; (go_simp <;> with_reducible rfl))
          (try simp only [Act.put, List.setIfInBounds_toArray, List.set_cons_zero, List.set_cons_succ])
          refine wpAnyH_take (i := 17) (oi := ?o2_17_18) (v := ?v2_17_18) ?i2_17_18 (by kernel_rfl) (by kernel_rfl) (by kernel_rfl) (fun _ _ _ h => h) (Or.inl ⟨?g2_17_18, ?y2_17_18⟩) hS ?_
          case i2_17_18 => simp only [List.getElem?_toArray, List.getElem?_cons_succ, List.getElem?_cons_zero]; rfl
          case g2_17_18 => rfl
          case y2_17_18 => (intro w hSw; (go_simp <;> with_reducible rfl))
          (try simp only [Act.put, List.setIfInBounds_toArray, List.set_cons_zero, List.set_cons_succ])
          refine wpAnyH_ready (rs := [18]) (by kernel_rfl) (by simp) ?_
          refine (AllReadyH.cons (o := ?or2_19_18) ?ir2_19_18 (fun K hK => ?str2_19_18) AllReadyH.nil)
          case ir2_19_18 => simp only [List.getElem?_toArray, List.getElem?_cons_succ, List.getElem?_cons_zero]; rfl
          rw [if_pos (by rfl)]
          have fz5 : w6.frozen? ⟨g', o' + 5, none⟩ = false := (HB6.out.frozen (p := ⟨g', o' + 5, none⟩) HGN.out.2.2.2).trans (by obtain ⟨-, cs, t, h⟩ := HGR.out; simp [World.frozen?, h])
          have fq5 : w6.cell? ⟨g', o' + 5, none⟩ = some (.slice (some ⟨b, 0, none⟩) pf.len (i + 1)) := (HB6.out.cell (p := ⟨g', o' + 5, none⟩) HGN.out.2.2.2).trans HC3.out
          go_simp
          refine hK.out _ _ ?sr2_19_18 (fun hS => ?_)
          case sr2_19_18 => (exact hS)
          clear hK K
          (try simp only [Act.put, List.setIfInBounds_toArray, List.set_cons_zero, List.set_cons_succ])
          refine wpAnyH_done (by kernel_rfl) ?_ _
          refine NoPanic.normal ?_
        case' str2_11_10 =>
          rw [if_pos (by rfl)]
          have q5 : w5.cell? ⟨g', o' + 5, none⟩ = some (.slice (some ⟨b, 0, none⟩) pf.len (i + 1)) := HC5.out
          go_simp
          refine hK.out _ _ ?sr2_11_10 (fun hS => ?_)
          case sr2_11_10 => (exact hS)
          clear hK K
          (try simp only [Act.put, List.setIfInBounds_toArray, List.set_cons_zero, List.set_cons_succ])
          refine wpAnyH_take (i := 13) (oi := ?o2_13_20) (v := ?v2_13_20) ?i2_13_20 (by kernel_rfl) (by kernel_rfl) (by kernel_rfl) (fun _ _ _ h => h) (Or.inl ⟨?g2_13_20, ?y2_13_20⟩) hS ?_
          case i2_13_20 => simp only [List.getElem?_toArray, List.getElem?_cons_succ, List.getElem?_cons_zero]; rfl
          case g2_13_20 => rfl
          case y2_13_20 => (intro w hSw; have jn := JW.out.2; have k1 : (0 : Int) ≤ (i : Int) + 1 := (by omega); have k2 : (i : Int) + 1 ≤ (pf.len : Int) := (by omega); have k4 : i + 1 ≤ pf.len := (by omega); (go_simp <;> with_reducible rfl))
          (try simp only [Act.put, List.setIfInBounds_toArray, List.set_cons_zero, List.set_cons_succ])
          refine wpAnyH_ready (rs := [4]) (by kernel_rfl) (by simp) ?_
          refine (AllReadyH.cons (o := ?or2_21_4) ?ir2_21_4 (fun K hK => ?str2_21_4) AllReadyH.nil)
          case ir2_21_4 => simp only [List.getElem?_toArray, List.getElem?_cons_succ, List.getElem?_cons_zero]; rfl
          rw [if_pos (by rfl)]
          have q5 : w5.cell? ⟨g', o' + 5, none⟩ = some (.slice (some ⟨b, 0, none⟩) pf.len (i + 1)) := HC5.out
          go_simp
          refine hK.out _ _ ?sr2_21_4 (fun hS => ?_)
          case sr2_21_4 => (exact hS)
          clear hK K
          (try simp only [Act.put, List.setIfInBounds_toArray, List.set_cons_zero, List.set_cons_succ])
          refine wpAnyH_take (i := 6) (oi := ?o2_6_22) (v := ?v2_6_22) ?i2_6_22 (by kernel_rfl) (by kernel_rfl) (by kernel_rfl) (fun _ _ _ h => h) (Or.inl ⟨?g2_6_22, ?y2_6_22⟩) hS ?_
          case i2_6_22 => simp only [List.getElem?_toArray, List.getElem?_cons_succ, List.getElem?_cons_zero]; rfl
          case g2_6_22 => rfl
          case y2_6_22 => (intro w hSw; have k3 : (i : Int) ≤ (i : Int) + 1 := (by omega); (go_simp <;> with_reducible rfl))
          (try simp only [Act.put, List.setIfInBounds_toArray, List.set_cons_zero, List.set_cons_succ])
          refine wpAnyH_ready (rs := [14]) (by kernel_rfl) (by simp) ?_
          refine (AllReadyH.cons (o := ?or2_23_14) ?ir2_23_14 (fun K hK => ?str2_23_14) AllReadyH.nil)
          case ir2_23_14 => simp only [List.getElem?_toArray, List.getElem?_cons_succ, List.getElem?_cons_zero]; rfl
          rw [if_pos (by rfl)]
          go_simp
          refine hK.out _ _ ?sr2_23_14 (fun hS => ?_)
          case sr2_23_14 => (exact hS)
          clear hK K
          (try simp only [Act.put, List.setIfInBounds_toArray, List.set_cons_zero, List.set_cons_succ])
          refine wpAnyH_ready (rs := [15]) (by kernel_rfl) (by simp) ?_
          refine (AllReadyH.cons (o := ?or2_24_15) ?ir2_24_15 (fun K hK => ?str2_24_15) AllReadyH.nil)
          case ir2_24_15 => simp only [List.getElem?_toArray, List.getElem?_cons_succ, List.getElem?_cons_zero]; rfl
          rw [if_pos (by rfl)]
          go_simp
          refine HCC.out.mono ?_
          rintro r w6 ⟨v6, rfl, k6, hb6⟩
          obtain ⟨A6, c6, rfl⟩ := k6.shape
          have HB6 := Lib.hid (HBI.out.trans (hb6.mono HBI.out.size))
          have HK6 := Lib.hid (And.intro k6 hb6)
          clear k6 hb6
          go_wp2_with fail
          refine hK.out _ _ ?sr2_24_15 (fun hS => ?_)
          case sr2_24_15 => (exact hS)
          clear hK K
          (try simp only [Act.put, List.setIfInBounds_toArray, List.set_cons_zero, List.set_cons_succ])
          refine wpAnyH_take (i := 16) (oi := ?o2_16_25) (v := ?v2_16_25) ?i2_16_25 (by kernel_rfl) (by kernel_rfl) (by kernel_rfl) (fun _ _ _ h => h) (Or.inl ⟨?g2_16_25, ?y2_16_25⟩) hS ?_
          case i2_16_25 => simp only [List.getElem?_toArray, List.getElem?_cons_succ, List.getElem?_cons_zero]; rfl
          case g2_16_25 => rfl
          case y2_16_25 => (intro w hSw; (go_simp <;> with_reducible rfl))
          (try simp only [Act.put, List.setIfInBounds_toArray, List.set_cons_zero, List.set_cons_succ])
          refine wpAnyH_take (i := 17) (oi := ?o2_17_26) (v := ?v2_17_26) ?i2_17_26 (by kernel_rfl) (by kernel_rfl) (by kernel_rfl) (fun _ _ _ h => h) (Or.inl ⟨?g2_17_26, ?y2_17_26⟩) hS ?_
          case i2_17_26 => simp only [List.getElem?_toArray, List.getElem?_cons_succ, List.getElem?_cons_zero]; rfl
          case g2_17_26 => rfl
          case y2_17_26 => (intro w hSw; (go_simp <;> with_reducible rfl))
          (try simp only [Act.put, List.setIfInBounds_toArray, List.set_cons_zero, List.set_cons_succ])
          refine wpAnyH_ready (rs := [18]) (by kernel_rfl) (by simp) ?_
          refine (AllReadyH.cons (o := ?or2_27_18) ?ir2_27_18 (fun K hK => ?str2_27_18) AllReadyH.nil)
          case ir2_27_18 => simp only [List.getElem?_toArray, List.getElem?_cons_succ, List.getElem?_cons_zero]; rfl
          rw [if_pos (by rfl)]
          have fz5 : w6.frozen? ⟨g', o' + 5, none⟩ = false := (HB6.out.frozen (p := ⟨g', o' + 5, none⟩) HGN.out.2.2.2).trans (by obtain ⟨-, cs, t, h⟩ := HGR.out; simp [World.frozen?, h])
          have fq5 : w6.cell? ⟨g', o' + 5, none⟩ = some (.slice (some ⟨b, 0, none⟩) pf.len (i + 1)) := (HB6.out.cell (p := ⟨g', o' + 5, none⟩) HGN.out.2.2.2).trans HC3.out
          go_simp
          refine hK.out _ _ ?sr2_27_18 (fun hS => ?_)
          case sr2_27_18 => (exact hS)
          clear hK K
          (try simp only [Act.put, List.setIfInBounds_toArray, List.set_cons_zero, List.set_cons_succ])
          refine wpAnyH_done (by kernel_rfl) ?_ _
          refine NoPanic.normal ?_
        all_goals clear hS
        all_goals
          obtain ⟨Fy', m1, m2, m3, m4, m5, m6, m7⟩ := HCUT.out w6 (.slice A6 i c6) HB6.out (by
              have h := HK6.out.1
              rw [show pf.len - 1 = i by have := HPL.out; omega]
              exact OwnK.mono h (Nat.le_trans HB3.out.size HBI.out.size))
            (fun h e => by
              have h1 := (HK6.out.1.lt h e).1
              have h2 := HBI.out.size
              omega)
          obtain ⟨F', n1, n2, n3, n4⟩ := K6.out _ (pa, withF pf i 1 .nil) Fy' m1 m2 m3 (fun h hh => by
              rcases m4 h hh with h3 | h3 | h3
              · exact .inl h3
              · cases h3
              · exact .inr h3) m5 m6
          rw [HXX.out] at n1
          obtain ⟨v', ncl, nU⟩ := n1
          obtain ⟨A7, c7, rfl⟩ := nU.shape
          have HZ7 : Hid (Blk (w6.setCell ⟨g', o' + 5, none⟩ (.slice A6 i c6)) (w.heap.size + 1) 27 #[.string ⟨#[]⟩, .string ⟨#[]⟩, .int .i64 0, .int .u64 0, .string ⟨#[]⟩, .slice none 0 0]) := Lib.hid ((m6 _ HQ3.out.2.1.lt (fun e => HGN.out.1 e.symm) (fun hm => by have := HF1.out _ (K2.out _ hm); omega)).trans HQ3.out.2.1)
          have RZ : Hid (Blk (set6 (w6.setCell ⟨g', o' + 5, none⟩ (.slice A6 i c6)) (w.heap.size + 1) (.string (txt a.name)) (.string (txt a.key)) (.int .i64 a.kind) (.int .u64 (a.num : Int)) (.string (txt a.text)) (.slice A7 XF.len c7)) (w.heap.size + 1) 27 #[.string (txt a.name), .string (txt a.key), .int .i64 a.kind, .int .u64 (a.num : Int), .string (txt a.text), .slice A7 XF.len c7]) := Lib.hid (HZ7.out.set6 _ _ _ _ _ _)
          have HQ : Hid (CutR a f l w (.returned (.tuple #[.agg #[.string (txt a.name), .string (txt a.key), .int .i64 a.kind, .int .u64 (a.num : Int), .string (txt a.text), .slice A7 XF.len c7], .int .i64 0])) (set6 (w6.setCell ⟨g', o' + 5, none⟩ (.slice A6 i c6)) (w.heap.size + 1) (.string (txt a.name)) (.string (txt a.key)) (.int .i64 a.kind) (.int .u64 (a.num : Int)) (.string (txt a.text)) (.slice A7 XF.len c7))) := Lib.hid (by
            refine cutR_ok HLNE.out HGX.out ?_
            rw [HCX.out]
            have h0 := HQ3.out.2.2
            exact ⟨_, rfl, OwnU.new (a := a) (nU.keep (fun h hh => set6_other (by rcases n4 h hh with h1 | h1; have := HF1.out h h1; omega; omega)) (Nat.le_refl _)), (HB3.out.trans m7).trans (set6_below (by omega))⟩)
          have p0 : ((w6.setCell ⟨g', o' + 5, none⟩ (.slice A6 i c6))).cell? ⟨w.heap.size, 0, none⟩ = _ := ncl 0 _ rfl
          have p1 : ((w6.setCell ⟨g', o' + 5, none⟩ (.slice A6 i c6))).cell? ⟨w.heap.size, 1, none⟩ = _ := ncl 1 _ rfl
          have p2 : ((w6.setCell ⟨g', o' + 5, none⟩ (.slice A6 i c6))).cell? ⟨w.heap.size, 2, none⟩ = _ := ncl 2 _ rfl
          have p3 : ((w6.setCell ⟨g', o' + 5, none⟩ (.slice A6 i c6))).cell? ⟨w.heap.size, 3, none⟩ = _ := ncl 3 _ rfl
          have p4 : ((w6.setCell ⟨g', o' + 5, none⟩ (.slice A6 i c6))).cell? ⟨w.heap.size, 4, none⟩ = _ := ncl 4 _ rfl
          have p5 : ((w6.setCell ⟨g', o' + 5, none⟩ (.slice A6 i c6))).cell? ⟨w.heap.size, 5, none⟩ = _ := ncl 5 _ rfl
          have fz0 : ((w6.setCell ⟨g', o' + 5, none⟩ (.slice A6 i c6))).frozen? ⟨w.heap.size + 1, 0, none⟩ = false := HZ7.out.frozen 0
          have fq0 := (HZ7.out.cell 0).trans rfl
          have fz1 : ((w6.setCell ⟨g', o' + 5, none⟩ (.slice A6 i c6))).frozen? ⟨w.heap.size + 1, 1, none⟩ = false := HZ7.out.frozen 1
          have fq1 := (HZ7.out.cell 1).trans rfl
          have fz2 : ((w6.setCell ⟨g', o' + 5, none⟩ (.slice A6 i c6))).frozen? ⟨w.heap.size + 1, 2, none⟩ = false := HZ7.out.frozen 2
          have fq2 := (HZ7.out.cell 2).trans rfl
          have fz3 : ((w6.setCell ⟨g', o' + 5, none⟩ (.slice A6 i c6))).frozen? ⟨w.heap.size + 1, 3, none⟩ = false := HZ7.out.frozen 3
          have fq3 := (HZ7.out.cell 3).trans rfl
          have fz4 : ((w6.setCell ⟨g', o' + 5, none⟩ (.slice A6 i c6))).frozen? ⟨w.heap.size + 1, 4, none⟩ = false := HZ7.out.frozen 4
          have fq4 := (HZ7.out.cell 4).trans rfl
          have fz5 : ((w6.setCell ⟨g', o' + 5, none⟩ (.slice A6 i c6))).frozen? ⟨w.heap.size + 1, 5, none⟩ = false := HZ7.out.frozen 5
          have fq5 := (HZ7.out.cell 5).trans rfl
          clear m1 m2 m3 m4 m5 m6 m7 n2 n3 n4 ncl nU
          revert RZ HQ p0 p1 p2 p3 p4 p5 fz0 fz1 fz2 fz3 fz4 fz5 fq0 fq1 fq2 fq3 fq4 fq5
          generalize (w6.setCell ⟨g', o' + 5, none⟩ (.slice A6 i c6)) = w7
          intro RZ HQ p0 p1 p2 p3 p4 p5 fz0 fz1 fz2 fz3 fz4 fz5 fq0 fq1 fq2 fq3 fq4 fq5
          go_wp2
          refine bodyPost_ret (res_ct9 rfl _ _ (w.heap.size + 1) 27 _ (0, 0) _ rfl RZ.out Try.underlying27 rfl (by kernel_rfl)) rfl ?_
          exact HQ.out
      · have HPL := Lib.hid hcc
        go_wp2_with fail
        have HBI : Hid (Below (set6 w3 w.heap.size (.string (txt a.name)) (.string (txt a.key)) (.int .i64 a.kind) (.int .u64 (a.num : Int)) (.string (txt a.text)) (.slice A1 f.len c1)).heap.size (set6 w3 w.heap.size (.string (txt a.name)) (.string (txt a.key)) (.int .i64 a.kind) (.int .u64 (a.num : Int)) (.string (txt a.text)) (.slice A1 f.len c1)) (w5.alloc (.cells #[.slice (some ⟨b, 0, none⟩) i c9, .slice (some ⟨b, (i + 1) * 6, none⟩) (pf.len - (i + 1)) (c9 - (i + 1))] 25)).drew) := Lib.hid ((HB35.out.alloc HB35.out.size _).drew)
        have HCC : Hid (Calls Try.prog 40 #[.slice (some ⟨w5.heap.size, 0, none⟩) 2 2] (w5.alloc (.cells #[.slice (some ⟨b, 0, none⟩) i c9, .slice (some ⟨b, (i + 1) * 6, none⟩) (pf.len - (i + 1)) (c9 - (i + 1))] 25)).drew (CatP (i + (pf.len - (i + 1))) (xs1 ++ xs2) (w5.alloc (.cells #[.slice (some ⟨b, 0, none⟩) i c9, .slice (some ⟨b, (i + 1) * 6, none⟩) (pf.len - (i + 1)) (c9 - (i + 1))] 25)).drew)) := Lib.hid (by
          obtain ⟨hx1, hx2, ho1, ho2, hce⟩ := HROW.out
          refine cat_any w5.heap.size ⟨b, 0, none⟩ ⟨b, (i + 1) * 6, none⟩ i (pf.len - (i + 1)) c9 (c9 - (i + 1)) xs1 xs2 (w5.alloc (.cells #[.slice (some ⟨b, 0, none⟩) i c9, .slice (some ⟨b, (i + 1) * 6, none⟩) (pf.len - (i + 1)) (c9 - (i + 1))] 25)).drew (show Blk (w5.alloc (.cells #[.slice (some ⟨b, 0, none⟩) i c9, .slice (some ⟨b, (i + 1) * 6, none⟩) (pf.len - (i + 1)) (c9 - (i + 1))] 25)) w5.heap.size 25 _ from Blk.new w5 25 _) hx1 (hx2) (fun j x hj => ?_) (fun j x hj => ?_) ho1 ho2 (by omega)
          · rw [add_lit9, Nat.zero_add]
            have hjl := (List.getElem?_eq_some_iff.1 hj).1
            refine (HBI.out.cell (p := ⟨b, j, none⟩) HBL.out).trans (hce j x ?_)
            rw [List.getElem?_append_left hjl]
            exact hj
          · (rw [add_lit9]; refine (HBI.out.cell (p := ⟨b, (i + 1) * 6 + j, none⟩) HBL.out).trans (hce _ x ?_); rw [List.getElem?_append_right (by omega), List.getElem?_append_right (by simp; omega), show (i + 1) * 6 + j - xs1.length - (ndC ka v1).length = j by simp; omega]; exact hj))
        refine wp_region_noPanic ?_
        refine wp_region_held_drew (S := fun _ => True) (by kernel_rfl) trivial (fun hS => ?_)
        replace hS := hS
        refine wpAnyH_take (i := 0) (oi := ?o3_0_1) (v := ?v3_0_1) ?i3_0_1 (by kernel_rfl) (by kernel_rfl) (by kernel_rfl) (fun _ _ _ h => h) (Or.inl ⟨?g3_0_1, ?y3_0_1⟩) hS ?_
        case i3_0_1 => simp only [List.getElem?_toArray, List.getElem?_cons_succ, List.getElem?_cons_zero]; rfl
        case g3_0_1 => rfl
        case y3_0_1 => (intro w hSw; (go_simp <;> with_reducible rfl))
        (try simp only [Act.put, List.setIfInBounds_toArray, List.set_cons_zero, List.set_cons_succ])
        refine wpAnyH_take (i := 1) (oi := ?o3_1_2) (v := ?v3_1_2) ?i3_1_2 (by kernel_rfl) (by kernel_rfl) (by kernel_rfl) (fun _ _ _ h => h) (Or.inl ⟨?g3_1_2, ?y3_1_2⟩) hS ?_
        case i3_1_2 => simp only [List.getElem?_toArray, List.getElem?_cons_succ, List.getElem?_cons_zero]; rfl
        case g3_1_2 => rfl
        case y3_1_2 => (intro w hSw; (go_simp <;> with_reducible rfl))
        (try simp only [Act.put, List.setIfInBounds_toArray, List.set_cons_zero, List.set_cons_succ])
        refine wpAnyH_take (i := 2) (oi := ?o3_2_3) (v := ?v3_2_3) ?i3_2_3 (by kernel_rfl) (by kernel_rfl) (by kernel_rfl) (fun _ _ _ h => h) (Or.inl ⟨?g3_2_3, ?y3_2_3⟩) hS ?_
        case i3_2_3 => simp only [List.getElem?_toArray, List.getElem?_cons_succ, List.getElem?_cons_zero]; rfl
        case g3_2_3 => rfl
        case y3_2_3 => (intro w hSw; (go_simp <;> with_reducible rfl))
        (try simp only [Act.put, List.setIfInBounds_toArray, List.set_cons_zero, List.set_cons_succ])
        refine wpAnyH_take (i := 3) (oi := ?o3_3_4) (v := ?v3_3_4) ?i3_3_4 (by kernel_rfl) (by kernel_rfl) (by kernel_rfl) (fun _ _ _ h => h) (Or.inl ⟨?g3_3_4, ?y3_3_4⟩) hS ?_
        case i3_3_4 => simp only [List.getElem?_toArray, List.getElem?_cons_succ, List.getElem?_cons_zero]; rfl
        case g3_3_4 => rfl
        case y3_3_4 => (intro w hSw; (go_simp <;> with_reducible rfl))
        (try simp only [Act.put, List.setIfInBounds_toArray, List.set_cons_zero, List.set_cons_succ])
        refine wpAnyH_take (i := 5) (oi := ?o3_5_5) (v := ?v3_5_5) ?i3_5_5 (by kernel_rfl) (by kernel_rfl) (by kernel_rfl) (fun _ _ _ h => h) (Or.inl ⟨?g3_5_5, ?y3_5_5⟩) hS ?_
        case i3_5_5 => simp only [List.getElem?_toArray, List.getElem?_cons_succ, List.getElem?_cons_zero]; rfl
        case g3_5_5 => rfl
        case y3_5_5 => (intro w hSw; (go_simp <;> with_reducible rfl))
        (try simp only [Act.put, List.setIfInBounds_toArray, List.set_cons_zero, List.set_cons_succ])
        refine wpAnyH_take (i := 7) (oi := ?o3_7_6) (v := ?v3_7_6) ?i3_7_6 (by kernel_rfl) (by kernel_rfl) (by kernel_rfl) (fun _ _ _ h => h) (Or.inl ⟨?g3_7_6, ?y3_7_6⟩) hS ?_
        case i3_7_6 => simp only [List.getElem?_toArray, List.getElem?_cons_succ, List.getElem?_cons_zero]; rfl
        case g3_7_6 => rfl
        case y3_7_6 => (intro w hSw; (go_simp <;> with_reducible rfl))
        (try simp only [Act.put, List.setIfInBounds_toArray, List.set_cons_zero, List.set_cons_succ])
        refine wpAnyH_take (i := 8) (oi := ?o3_8_7) (v := ?v3_8_7) ?i3_8_7 (by kernel_rfl) (by kernel_rfl) (by kernel_rfl) (fun _ _ _ h => h) (Or.inl ⟨?g3_8_7, ?y3_8_7⟩) hS ?_
        case i3_8_7 => simp only [List.getElem?_toArray, List.getElem?_cons_succ, List.getElem?_cons_zero]; rfl
        case g3_8_7 => rfl
        case y3_8_7 => (intro w hSw; (go_simp <;> with_reducible rfl))
        (try simp only [Act.put, List.setIfInBounds_toArray, List.set_cons_zero, List.set_cons_succ])
        refine wpAnyH_take (i := 9) (oi := ?o3_9_8) (v := ?v3_9_8) ?i3_9_8 (by kernel_rfl) (by kernel_rfl) (by kernel_rfl) (fun _ _ _ h => h) (Or.inl ⟨?g3_9_8, ?y3_9_8⟩) hS ?_
        case i3_9_8 => simp only [List.getElem?_toArray, List.getElem?_cons_succ, List.getElem?_cons_zero]; rfl
        case g3_9_8 => rfl
        case y3_9_8 => (intro w hSw; (go_simp <;> with_reducible rfl))
        (try simp only [Act.put, List.setIfInBounds_toArray, List.set_cons_zero, List.set_cons_succ])
        refine wpAnyH_take (i := 11) (oi := ?o3_11_9) (v := ?v3_11_9) ?i3_11_9 (by kernel_rfl) (by kernel_rfl) (by kernel_rfl) (fun _ _ _ h => h) (Or.inl ⟨?g3_11_9, ?y3_11_9⟩) hS ?_
        case i3_11_9 => simp only [List.getElem?_toArray, List.getElem?_cons_succ, List.getElem?_cons_zero]; rfl
        case g3_11_9 => rfl
        case y3_11_9 => (intro w hSw; (go_simp <;> with_reducible rfl))
        (try simp only [Act.put, List.setIfInBounds_toArray, List.set_cons_zero, List.set_cons_succ])
        refine wpAnyH_take (i := 12) (oi := ?o3_12_10) (v := ?v3_12_10) ?i3_12_10 (by kernel_rfl) (by kernel_rfl) (by kernel_rfl) (fun _ _ _ h => h) (Or.inl ⟨?g3_12_10, ?y3_12_10⟩) hS ?_
        case i3_12_10 => simp only [List.getElem?_toArray, List.getElem?_cons_succ, List.getElem?_cons_zero]; rfl
        case g3_12_10 => rfl
        case y3_12_10 => (intro w hSw; have jw := JW.out.1; (go_simp <;> with_reducible rfl))
        (try simp only [Act.put, List.setIfInBounds_toArray, List.set_cons_zero, List.set_cons_succ])
        refine wpAnyH_ready (rs := [4, 10]) (by kernel_rfl) (by simp) ?_
        refine (AllReadyH.cons (o := ?or3_11_4) ?ir3_11_4 (fun K hK => ?str3_11_4) (AllReadyH.cons (o := ?or3_11_10) ?ir3_11_10 (fun K hK => ?str3_11_10) AllReadyH.nil))
        case ir3_11_4 => simp only [List.getElem?_toArray, List.getElem?_cons_succ, List.getElem?_cons_zero]; rfl
        case ir3_11_10 => simp only [List.getElem?_toArray, List.getElem?_cons_succ, List.getElem?_cons_zero]; rfl
        case' str3_11_4 =>
          rw [if_pos (by rfl)]
          have q5 : w5.cell? ⟨g', o' + 5, none⟩ = some (.slice (some ⟨b, 0, none⟩) pf.len c9) := HC5.out
          go_simp
          refine hK.out _ _ ?sr3_11_4 (fun hS => ?_)
          case sr3_11_4 => (exact hS)
          clear hK K
          (try simp only [Act.put, List.setIfInBounds_toArray, List.set_cons_zero, List.set_cons_succ])
          refine wpAnyH_take (i := 6) (oi := ?o3_6_12) (v := ?v3_6_12) ?i3_6_12 (by kernel_rfl) (by kernel_rfl) (by kernel_rfl) (fun _ _ _ h => h) (Or.inl ⟨?g3_6_12, ?y3_6_12⟩) hS ?_
          case i3_6_12 => simp only [List.getElem?_toArray, List.getElem?_cons_succ, List.getElem?_cons_zero]; rfl
          case g3_6_12 => rfl
          case y3_6_12 => (intro w hSw; have k3 : (i : Int) ≤ (i : Int) + 1 := (by omega); (go_simp <;> with_reducible rfl))
          (try simp only [Act.put, List.setIfInBounds_toArray, List.set_cons_zero, List.set_cons_succ])
          refine wpAnyH_ready (rs := [10]) (by kernel_rfl) (by simp) ?_
          refine (AllReadyH.cons (o := ?or3_13_10) ?ir3_13_10 (fun K hK => ?str3_13_10) AllReadyH.nil)
          case ir3_13_10 => simp only [List.getElem?_toArray, List.getElem?_cons_succ, List.getElem?_cons_zero]; rfl
          rw [if_pos (by rfl)]
          have q5 : w5.cell? ⟨g', o' + 5, none⟩ = some (.slice (some ⟨b, 0, none⟩) pf.len c9) := HC5.out
          go_simp
          refine hK.out _ _ ?sr3_13_10 (fun hS => ?_)
          case sr3_13_10 => (exact hS)
          clear hK K
          (try simp only [Act.put, List.setIfInBounds_toArray, List.set_cons_zero, List.set_cons_succ])
          refine wpAnyH_take (i := 13) (oi := ?o3_13_14) (v := ?v3_13_14) ?i3_13_14 (by kernel_rfl) (by kernel_rfl) (by kernel_rfl) (fun _ _ _ h => h) (Or.inl ⟨?g3_13_14, ?y3_13_14⟩) hS ?_
          case i3_13_14 => simp only [List.getElem?_toArray, List.getElem?_cons_succ, List.getElem?_cons_zero]; rfl
          case g3_13_14 => rfl
          case y3_13_14 => (intro w hSw; have jn := JW.out.2; have k1 : (0 : Int) ≤ (i : Int) + 1 := (by omega); have k2 : (i : Int) + 1 ≤ (pf.len : Int) := (by omega); have k4 : i + 1 ≤ pf.len := (by omega); (go_simp <;> with_reducible rfl))
          (try simp only [Act.put, List.setIfInBounds_toArray, List.set_cons_zero, List.set_cons_succ])
          refine wpAnyH_ready (rs := [14]) (by kernel_rfl) (by simp) ?_
          refine (AllReadyH.cons (o := ?or3_15_14) ?ir3_15_14 (fun K hK => ?str3_15_14) AllReadyH.nil)
          case ir3_15_14 => simp only [List.getElem?_toArray, List.getElem?_cons_succ, List.getElem?_cons_zero]; rfl
          rw [if_pos (by rfl)]
          go_simp
          refine hK.out _ _ ?sr3_15_14 (fun hS => ?_)
          case sr3_15_14 => (exact hS)
          clear hK K
          (try simp only [Act.put, List.setIfInBounds_toArray, List.set_cons_zero, List.set_cons_succ])
          refine wpAnyH_ready (rs := [15]) (by kernel_rfl) (by simp) ?_
          refine (AllReadyH.cons (o := ?or3_16_15) ?ir3_16_15 (fun K hK => ?str3_16_15) AllReadyH.nil)
          case ir3_16_15 => simp only [List.getElem?_toArray, List.getElem?_cons_succ, List.getElem?_cons_zero]; rfl
          rw [if_pos (by rfl)]
          go_simp
          refine HCC.out.mono ?_
          rintro r w6 ⟨v6, rfl, k6, hb6⟩
          obtain ⟨A6, c6, rfl⟩ := k6.shape
          have HB6 := Lib.hid (HBI.out.trans (hb6.mono HBI.out.size))
          have HK6 := Lib.hid (And.intro k6 hb6)
          clear k6 hb6
          go_wp2_with fail
          refine hK.out _ _ ?sr3_16_15 (fun hS => ?_)
          case sr3_16_15 => (exact hS)
          clear hK K
          (try simp only [Act.put, List.setIfInBounds_toArray, List.set_cons_zero, List.set_cons_succ])
          refine wpAnyH_take (i := 16) (oi := ?o3_16_17) (v := ?v3_16_17) ?i3_16_17 (by kernel_rfl) (by kernel_rfl) (by kernel_rfl) (fun _ _ _ h => h) (Or.inl ⟨?g3_16_17, ?y3_16_17⟩) hS ?_
          case i3_16_17 => simp only [List.getElem?_toArray, List.getElem?_cons_succ, List.getElem?_cons_zero]; rfl
          case g3_16_17 => rfl
          case y3_16_17 => (intro w hSw; (go_simp <;> with_reducible rfl))
          (try simp only [Act.put, List.setIfInBounds_toArray, List.set_cons_zero, List.set_cons_succ])
          refine wpAnyH_take (i := 17) (oi := ?o3_17_18) (v := ?v3_17_18) ?i3_17_18 (by kernel_rfl) (by kernel_rfl) (by kernel_rfl) (fun _ _ _ h => h) (Or.inl ⟨?g3_17_18, ?y3_17_18⟩) hS ?_
          case i3_17_18 => simp only [List.getElem?_toArray, List.getElem?_cons_succ, List.getElem?_cons_zero]; rfl
          case g3_17_18 => rfl
          case y3_17_18 => (intro w hSw; (go_simp <;> with_reducible rfl))
          (try simp only [Act.put, List.setIfInBounds_toArray, List.set_cons_zero, List.set_cons_succ])
          refine wpAnyH_ready (rs := [18]) (by kernel_rfl) (by simp) ?_
          refine (AllReadyH.cons (o := ?or3_19_18) ?ir3_19_18 (fun K hK => ?str3_19_18) AllReadyH.nil)
          case ir3_19_18 => simp only [List.getElem?_toArray, List.getElem?_cons_succ, List.getElem?_cons_zero]; rfl
          rw [if_pos (by rfl)]
          have fz5 : w6.frozen? ⟨g', o' + 5, none⟩ = false := (HB6.out.frozen (p := ⟨g', o' + 5, none⟩) HGN.out.2.2.2).trans (by obtain ⟨-, cs, t, h⟩ := HGR.out; simp [World.frozen?, h])
          have fq5 : w6.cell? ⟨g', o' + 5, none⟩ = some (.slice (some ⟨b, 0, none⟩) pf.len c9) := (HB6.out.cell (p := ⟨g', o' + 5, none⟩) HGN.out.2.2.2).trans HC3.out
          go_simp
          refine hK.out _ _ ?sr3_19_18 (fun hS => ?_)
          case sr3_19_18 => (exact hS)
          clear hK K
          (try simp only [Act.put, List.setIfInBounds_toArray, List.set_cons_zero, List.set_cons_succ])
          refine wpAnyH_done (by kernel_rfl) ?_ _
          refine NoPanic.normal ?_
        case' str3_11_10 =>
          rw [if_pos (by rfl)]
          have q5 : w5.cell? ⟨g', o' + 5, none⟩ = some (.slice (some ⟨b, 0, none⟩) pf.len c9) := HC5.out
          go_simp
          refine hK.out _ _ ?sr3_11_10 (fun hS => ?_)
          case sr3_11_10 => (exact hS)
          clear hK K
          (try simp only [Act.put, List.setIfInBounds_toArray, List.set_cons_zero, List.set_cons_succ])
          refine wpAnyH_take (i := 13) (oi := ?o3_13_20) (v := ?v3_13_20) ?i3_13_20 (by kernel_rfl) (by kernel_rfl) (by kernel_rfl) (fun _ _ _ h => h) (Or.inl ⟨?g3_13_20, ?y3_13_20⟩) hS ?_
          case i3_13_20 => simp only [List.getElem?_toArray, List.getElem?_cons_succ, List.getElem?_cons_zero]; rfl
          case g3_13_20 => rfl
          case y3_13_20 => (intro w hSw; have jn := JW.out.2; have k1 : (0 : Int) ≤ (i : Int) + 1 := (by omega); have k2 : (i : Int) + 1 ≤ (pf.len : Int) := (by omega); have k4 : i + 1 ≤ pf.len := (by omega); (go_simp <;> with_reducible rfl))
          (try simp only [Act.put, List.setIfInBounds_toArray, List.set_cons_zero, List.set_cons_succ])
          refine wpAnyH_ready (rs := [4]) (by kernel_rfl) (by simp) ?_
          refine (AllReadyH.cons (o := ?or3_21_4) ?ir3_21_4 (fun K hK => ?str3_21_4) AllReadyH.nil)
          case ir3_21_4 => simp only [List.getElem?_toArray, List.getElem?_cons_succ, List.getElem?_cons_zero]; rfl
          rw [if_pos (by rfl)]
          have q5 : w5.cell? ⟨g', o' + 5, none⟩ = some (.slice (some ⟨b, 0, none⟩) pf.len c9) := HC5.out
          go_simp
          refine hK.out _ _ ?sr3_21_4 (fun hS => ?_)
          case sr3_21_4 => (exact hS)
          clear hK K
          (try simp only [Act.put, List.setIfInBounds_toArray, List.set_cons_zero, List.set_cons_succ])
          refine wpAnyH_take (i := 6) (oi := ?o3_6_22) (v := ?v3_6_22) ?i3_6_22 (by kernel_rfl) (by kernel_rfl) (by kernel_rfl) (fun _ _ _ h => h) (Or.inl ⟨?g3_6_22, ?y3_6_22⟩) hS ?_
          case i3_6_22 => simp only [List.getElem?_toArray, List.getElem?_cons_succ, List.getElem?_cons_zero]; rfl
          case g3_6_22 => rfl
          case y3_6_22 => (intro w hSw; have k3 : (i : Int) ≤ (i : Int) + 1 := (by omega); (go_simp <;> with_reducible rfl))
          (try simp only [Act.put, List.setIfInBounds_toArray, List.set_cons_zero, List.set_cons_succ])
          refine wpAnyH_ready (rs := [14]) (by kernel_rfl) (by simp) ?_
          refine (AllReadyH.cons (o := ?or3_23_14) ?ir3_23_14 (fun K hK => ?str3_23_14) AllReadyH.nil)
          case ir3_23_14 => simp only [List.getElem?_toArray, List.getElem?_cons_succ, List.getElem?_cons_zero]; rfl
          rw [if_pos (by rfl)]
          go_simp
          refine hK.out _ _ ?sr3_23_14 (fun hS => ?_)
          case sr3_23_14 => (exact hS)
          clear hK K
          (try simp only [Act.put, List.setIfInBounds_toArray, List.set_cons_zero, List.set_cons_succ])
          refine wpAnyH_ready (rs := [15]) (by kernel_rfl) (by simp) ?_
          refine (AllReadyH.cons (o := ?or3_24_15) ?ir3_24_15 (fun K hK => ?str3_24_15) AllReadyH.nil)
          case ir3_24_15 => simp only [List.getElem?_toArray, List.getElem?_cons_succ, List.getElem?_cons_zero]; rfl
          rw [if_pos (by rfl)]
          go_simp
          refine HCC.out.mono ?_
          rintro r w6 ⟨v6, rfl, k6, hb6⟩
          obtain ⟨A6, c6, rfl⟩ := k6.shape
          have HB6 := Lib.hid (HBI.out.trans (hb6.mono HBI.out.size))
          have HK6 := Lib.hid (And.intro k6 hb6)
          clear k6 hb6
          go_wp2_with fail
          refine hK.out _ _ ?sr3_24_15 (fun hS => ?_)
          case sr3_24_15 => (exact hS)
          clear hK K
          (try simp only [Act.put, List.setIfInBounds_toArray, List.set_cons_zero, List.set_cons_succ])
          refine wpAnyH_take (i := 16) (oi := ?o3_16_25) (v := ?v3_16_25) ?i3_16_25 (by kernel_rfl) (by kernel_rfl) (by kernel_rfl) (fun _ _ _ h => h) (Or.inl ⟨?g3_16_25, ?y3_16_25⟩) hS ?_
          case i3_16_25 => simp only [List.getElem?_toArray, List.getElem?_cons_succ, List.getElem?_cons_zero]; rfl
          case g3_16_25 => rfl
          case y3_16_25 => (intro w hSw; (go_simp <;> with_reducible rfl))
          (try simp only [Act.put, List.setIfInBounds_toArray, List.set_cons_zero, List.set_cons_succ])
          refine wpAnyH_take (i := 17) (oi := ?o3_17_26) (v := ?v3_17_26) ?i3_17_26 (by kernel_rfl) (by kernel_rfl) (by kernel_rfl) (fun _ _ _ h => h) (Or.inl ⟨?g3_17_26, ?y3_17_26⟩) hS ?_
          case i3_17_26 => simp only [List.getElem?_toArray, List.getElem?_cons_succ, List.getElem?_cons_zero]; rfl
          case g3_17_26 => rfl
          case y3_17_26 => (intro w hSw; (go_simp <;> with_reducible rfl))
          (try simp only [Act.put, List.setIfInBounds_toArray, List.set_cons_zero, List.set_cons_succ])
          refine wpAnyH_ready (rs := [18]) (by kernel_rfl) (by simp) ?_
          refine (AllReadyH.cons (o := ?or3_27_18) ?ir3_27_18 (fun K hK => ?str3_27_18) AllReadyH.nil)
          case ir3_27_18 => simp only [List.getElem?_toArray, List.getElem?_cons_succ, List.getElem?_cons_zero]; rfl
          rw [if_pos (by rfl)]
          have fz5 : w6.frozen? ⟨g', o' + 5, none⟩ = false := (HB6.out.frozen (p := ⟨g', o' + 5, none⟩) HGN.out.2.2.2).trans (by obtain ⟨-, cs, t, h⟩ := HGR.out; simp [World.frozen?, h])
          have fq5 : w6.cell? ⟨g', o' + 5, none⟩ = some (.slice (some ⟨b, 0, none⟩) pf.len c9) := (HB6.out.cell (p := ⟨g', o' + 5, none⟩) HGN.out.2.2.2).trans HC3.out
          go_simp
          refine hK.out _ _ ?sr3_27_18 (fun hS => ?_)
          case sr3_27_18 => (exact hS)
          clear hK K
          (try simp only [Act.put, List.setIfInBounds_toArray, List.set_cons_zero, List.set_cons_succ])
          refine wpAnyH_done (by kernel_rfl) ?_ _
          refine NoPanic.normal ?_
        all_goals clear hS
        all_goals
          obtain ⟨Fy', m1, m2, m3, m4, m5, m6, m7⟩ := HCUT.out w6 (.slice A6 (i + (pf.len - (i + 1))) c6) HB6.out (by
              have h := HK6.out.1
              rw [show pf.len - 1 = (i + (pf.len - (i + 1))) by have := HPL.out; omega]
              exact OwnK.mono h (Nat.le_trans HB3.out.size HBI.out.size))
            (fun h e => by
              have h1 := (HK6.out.1.lt h e).1
              have h2 := HBI.out.size
              omega)
          obtain ⟨F', n1, n2, n3, n4⟩ := K6.out _ (pa, withF pf i 1 .nil) Fy' m1 m2 m3 (fun h hh => by
              rcases m4 h hh with h3 | h3 | h3
              · exact .inl h3
              · cases h3
              · exact .inr h3) m5 m6
          rw [HXX.out] at n1
          obtain ⟨v', ncl, nU⟩ := n1
          obtain ⟨A7, c7, rfl⟩ := nU.shape
          have HZ7 : Hid (Blk (w6.setCell ⟨g', o' + 5, none⟩ (.slice A6 (i + (pf.len - (i + 1))) c6)) (w.heap.size + 1) 27 #[.string ⟨#[]⟩, .string ⟨#[]⟩, .int .i64 0, .int .u64 0, .string ⟨#[]⟩, .slice none 0 0]) := Lib.hid ((m6 _ HQ3.out.2.1.lt (fun e => HGN.out.1 e.symm) (fun hm => by have := HF1.out _ (K2.out _ hm); omega)).trans HQ3.out.2.1)
          have RZ : Hid (Blk (set6 (w6.setCell ⟨g', o' + 5, none⟩ (.slice A6 (i + (pf.len - (i + 1))) c6)) (w.heap.size + 1) (.string (txt a.name)) (.string (txt a.key)) (.int .i64 a.kind) (.int .u64 (a.num : Int)) (.string (txt a.text)) (.slice A7 XF.len c7)) (w.heap.size + 1) 27 #[.string (txt a.name), .string (txt a.key), .int .i64 a.kind, .int .u64 (a.num : Int), .string (txt a.text), .slice A7 XF.len c7]) := Lib.hid (HZ7.out.set6 _ _ _ _ _ _)
          have HQ : Hid (CutR a f l w (.returned (.tuple #[.agg #[.string (txt a.name), .string (txt a.key), .int .i64 a.kind, .int .u64 (a.num : Int), .string (txt a.text), .slice A7 XF.len c7], .int .i64 0])) (set6 (w6.setCell ⟨g', o' + 5, none⟩ (.slice A6 (i + (pf.len - (i + 1))) c6)) (w.heap.size + 1) (.string (txt a.name)) (.string (txt a.key)) (.int .i64 a.kind) (.int .u64 (a.num : Int)) (.string (txt a.text)) (.slice A7 XF.len c7))) := Lib.hid (by
            refine cutR_ok HLNE.out HGX.out ?_
            rw [HCX.out]
            have h0 := HQ3.out.2.2
            exact ⟨_, rfl, OwnU.new (a := a) (nU.keep (fun h hh => set6_other (by rcases n4 h hh with h1 | h1; have := HF1.out h h1; omega; omega)) (Nat.le_refl _)), (HB3.out.trans m7).trans (set6_below (by omega))⟩)
          have p0 : ((w6.setCell ⟨g', o' + 5, none⟩ (.slice A6 (i + (pf.len - (i + 1))) c6))).cell? ⟨w.heap.size, 0, none⟩ = _ := ncl 0 _ rfl
          have p1 : ((w6.setCell ⟨g', o' + 5, none⟩ (.slice A6 (i + (pf.len - (i + 1))) c6))).cell? ⟨w.heap.size, 1, none⟩ = _ := ncl 1 _ rfl
          have p2 : ((w6.setCell ⟨g', o' + 5, none⟩ (.slice A6 (i + (pf.len - (i + 1))) c6))).cell? ⟨w.heap.size, 2, none⟩ = _ := ncl 2 _ rfl
          have p3 : ((w6.setCell ⟨g', o' + 5, none⟩ (.slice A6 (i + (pf.len - (i + 1))) c6))).cell? ⟨w.heap.size, 3, none⟩ = _ := ncl 3 _ rfl
          have p4 : ((w6.setCell ⟨g', o' + 5, none⟩ (.slice A6 (i + (pf.len - (i + 1))) c6))).cell? ⟨w.heap.size, 4, none⟩ = _ := ncl 4 _ rfl
          have p5 : ((w6.setCell ⟨g', o' + 5, none⟩ (.slice A6 (i + (pf.len - (i + 1))) c6))).cell? ⟨w.heap.size, 5, none⟩ = _ := ncl 5 _ rfl
          have fz0 : ((w6.setCell ⟨g', o' + 5, none⟩ (.slice A6 (i + (pf.len - (i + 1))) c6))).frozen? ⟨w.heap.size + 1, 0, none⟩ = false := HZ7.out.frozen 0
          have fq0 := (HZ7.out.cell 0).trans rfl
          have fz1 : ((w6.setCell ⟨g', o' + 5, none⟩ (.slice A6 (i + (pf.len - (i + 1))) c6))).frozen? ⟨w.heap.size + 1, 1, none⟩ = false := HZ7.out.frozen 1
          have fq1 := (HZ7.out.cell 1).trans rfl
          have fz2 : ((w6.setCell ⟨g', o' + 5, none⟩ (.slice A6 (i + (pf.len - (i + 1))) c6))).frozen? ⟨w.heap.size + 1, 2, none⟩ = false := HZ7.out.frozen 2
          have fq2 := (HZ7.out.cell 2).trans rfl
          have fz3 : ((w6.setCell ⟨g', o' + 5, none⟩ (.slice A6 (i + (pf.len - (i + 1))) c6))).frozen? ⟨w.heap.size + 1, 3, none⟩ = false := HZ7.out.frozen 3
          have fq3 := (HZ7.out.cell 3).trans rfl
          have fz4 : ((w6.setCell ⟨g', o' + 5, none⟩ (.slice A6 (i + (pf.len - (i + 1))) c6))).frozen? ⟨w.heap.size + 1, 4, none⟩ = false := HZ7.out.frozen 4
          have fq4 := (HZ7.out.cell 4).trans rfl
          have fz5 : ((w6.setCell ⟨g', o' + 5, none⟩ (.slice A6 (i + (pf.len - (i + 1))) c6))).frozen? ⟨w.heap.size + 1, 5, none⟩ = false := HZ7.out.frozen 5
          have fq5 := (HZ7.out.cell 5).trans rfl
          clear m1 m2 m3 m4 m5 m6 m7 n2 n3 n4 ncl nU
          revert RZ HQ p0 p1 p2 p3 p4 p5 fz0 fz1 fz2 fz3 fz4 fz5 fq0 fq1 fq2 fq3 fq4 fq5
          generalize (w6.setCell ⟨g', o' + 5, none⟩ (.slice A6 (i + (pf.len - (i + 1))) c6)) = w7
          intro RZ HQ p0 p1 p2 p3 p4 p5 fz0 fz1 fz2 fz3 fz4 fz5 fq0 fq1 fq2 fq3 fq4 fq5
          go_wp2
          refine bodyPost_ret (res_ct9 rfl _ _ (w.heap.size + 1) 27 _ (0, 0) _ rfl RZ.out Try.underlying27 rfl (by kernel_rfl)) rfl ?_
          exact HQ.out
theorem cutT (W0 : World) : CutTC W0 := by
  intro x l cs v w hx hv hf _ hl _
  obtain ⟨A, c, rfl, hk⟩ := hx.shape
  obtain ⟨B, m, rfl⟩ := hv.shape
  obtain ⟨a, f⟩ := x
  cases hn : l.length with
  | zero =>
    have e : l = [] := List.eq_nil_of_length_eq_zero hn
    subst e
    exact dcut_nil a f A B c m w hk
  | succ n =>
    rw [hn] at hv
    obtain ⟨sl, hs⟩ : ∃ s, l[n]? = some s := ⟨_, List.getElem?_eq_getElem (by omega)⟩
    exact dcut_go a f A B c m n l sl w hk hf hv hs hl
end Go.Proofs.Ytgipnemcmiohlaa


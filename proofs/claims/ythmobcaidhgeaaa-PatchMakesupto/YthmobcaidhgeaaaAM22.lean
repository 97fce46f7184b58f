/- TrvK -/
import Derived.Test.YthmobcaidhgeaaaAM21
set_option linter.unusedSimpArgs false
set_option linter.unusedVariables false
set_option maxRecDepth 100000
set_option maxHeartbeats 8000000
namespace Go.Proofs.Ythmobcaidhgeaaa
open Go.RowKit
def GrowP (w : World) (r : Ending) (w' : World) : Prop := ∃ v, r = .returned v ∧ OwnK 27 6 w' w.heap.size v 0 [] ∧ Below w.heap.size w w'
theorem grow_zero (w : World) : Calls Try.prog 58 #[.slice none 0 0, .int .i64 0] w (GrowP w) := by
 have HP : Hid (GrowP w (.returned (.slice none 0 0)) w) := hHd ⟨_, rfl, OwnK.nil _ _ _ _, Below.refl _ _⟩
 go_enter Try.func58, Try.ntmps58
 go_wp2
 go_ret
 exact HP.out
theorem grow_some (n : Nat) (w : World) (h0 : 0 < n) (hn : n ≤ 1000000) : Calls Try.prog 58 #[.slice none 0 0, .int .i64 (n : Int)] w (GrowP w) := by
 obtain ⟨i0, hi0, hz0, hzs, hzb⟩ := info_parts Try.cellsNd
 obtain ⟨G, hG⟩ : ∃ G, G = grownCap w n 0 27 := ⟨_, rfl⟩
 obtain ⟨z, hz⟩ : ∃ z : Value, z = .agg #[.string ⟨#[]⟩, .string ⟨#[]⟩, .int .i64 0, .int .u64 0, .string ⟨#[]⟩, .slice none 0 0] := ⟨_, rfl⟩
 have hz6 : z.cells.size = 6 := by rw [hz]; rfl
 obtain ⟨Z, hZ⟩ : ∃ Z : Array Value, Z = Builtin.zeroCells z.cells n ++ Builtin.zeroCells z.cells (G - n) := ⟨_, rfl⟩
 have hGn : n ≤ G := by rw [hG]; exact grownCap_ge _ _ _ _
 have hGm : G ≤ maxLen := by rw [hG]; exact grownCap_le_maxLen _ _ _ _ (by unfold maxLen; omega)
 have hZl : Z.size = G * 6 := by
  rw [hZ, Array.size_append, zeroC_len z hz6, zeroC_len z hz6]
  omega
 have hrz : Hid (∀ ty, (Builtin.append_ #[25, 3] ty #[.slice none 0 0, .int .i64 (n : Int)]).run Try.prog w = .ok (.slice (some ⟨w.heap.size, 0, none⟩) n G) (w.drew.alloc (.cells Z 27))) := hHd (fun ty => by
  have h := Lib.run_append_nil_zeros w 25 3 ty 27 i0 z .i64 .i64 Try.underlying25 Try.underlying3 hi0 (by rw [hz0, hz]) n h0 (by omega) (by omega) (by rw [hzb]; omega)
  rw [← hG, ← hZ] at h
  exact h)
 have HP : Hid (GrowP w (.returned (.slice (some ⟨w.heap.size, 0, none⟩) 0 G)) (w.drew.alloc (.cells Z 27))) := hHd ⟨_, rfl, World.ownsRow_made w.drew Z G (Nat.le_refl _) hGm hZl, (Below.refl w.heap.size w).drew.alloc (by simp) _⟩
 have hG47 : (G : Int) ≤ 9223372036854775807 := by unfold maxLen at hGm; omega
 have i1 : (0 : Int) < (n : Int) := by omega
 have i2 : (n : Int) ≤ 1000000 := by omega
 have i3 : (n : Int) ≤ (G : Int) := by omega
 have i4 : ¬ (n : Int) < 0 := by omega
 have i5 : (0 : Int) ≤ (G : Int) := by omega
 clear hi0 hz0 hzs hzb hG hz hz6 hZ hGm hZl h0
 go_enter Try.func58, Try.ntmps58
 go_wp2_with (at_builtin; refine Lib.wpList_append_run _ rfl (.tmp 20) (.tmp 21) 25 3 rfl _ _ rfl rfl _ _ (hrz.out _) ?_)
 go_ret
 exact HP.out
theorem grow_any (n : Nat) (w : World) (hn : n ≤ 1000000) : Calls Try.prog 58 #[.slice none 0 0, .int .i64 (n : Int)] w (GrowP w) := by
 by_cases h : n = 0
 ·subst h; exact grow_zero w
 ·exact grow_some n w (by omega) hn
def AppC (base : Nat) (v : Value) (n : Nat) (xs : List Value) (w : World) (v' : Value) (w' : World) : Prop := OwnK 27 6 w' base v' n xs ∧ w.grownBy w' v.ownBlock ∧ (v'.ownBlock = v.ownBlock ∨ v'.ownBlock = some w.heap.size)
theorem run_append_c (w : World) (base : Nat) (v : Value) (n : Nat) (xs : List Value) (hown : OwnK 27 6 w base v n xs) (ad : Addr) (k c : Nat) (cs : List Value) (hl : cs.length = k * 6) (hc : ∀ j x, cs[j]? = some x → w.cell? (ad.add j) = some x) (h1 : ∀ u ∈ cs, u.oneCell' = true)
  (hb : n + k ≤ 1000000) (hbase : base ≤ w.heap.size) : ∃ v' w', (Builtin.append_ #[25, 25] 25 #[v, .slice (some ad) k c]).run Try.prog w = .ok v' w' ∧ AppC base v (n + k) (xs ++ cs) w v' w' := by
 obtain ⟨i, hi, hz0, hz1, hz2⟩ := info_parts Try.cellsNd
 obtain ⟨v', w', hrun, k1, k2, _, k3⟩ := run_append_own_at (P := Try.prog) (w := w) base 25 25 27 i _ 6 88 Try.underlying25 hi hz0 hz1 hz2 zeroN (by omega) v n xs hown ad k c cs hl hc h1 (by unfold maxLen; omega) (by omega) hbase
 exact ⟨v', w', hrun, k1, k2, k3⟩
theorem wpList_append_c {w : World} {ops : Array Oper} {rest : List Oper} {o : Oper} {a : Act} {Q : Exit → Act → World → Prop} (hgd : o.guard = none) (s x : Operand)
  (ho : o.op = .call { callee := .builtin .append, args := #[s, x], argTypes := #[25, 25] }) (hty : o.type = 25) (base : Nat) (v : Value) (n : Nat) (xs : List Value) (hs : a.eval s = v) (hown : OwnK 27 6 w base v n xs)
  (ad : Addr) (k c : Nat) (cs : List Value) (hx : a.eval x = .slice (some ad) k c) (hl : cs.length = k * 6) (hc : ∀ j x, cs[j]? = some x → w.cell? (ad.add j) = some x) (h1 : ∀ u ∈ cs, u.oneCell' = true)
  (hb : n + k ≤ 1000000) (hbase : base ≤ w.heap.size) (hK : ∀ v' w', AppC base v (n + k) (xs ++ cs) w v' w' → wpList Try.prog ops Q rest (a.put o.dst v') w') : wpList Try.prog ops Q (o :: rest) a w := by
 obtain ⟨v', w', hrun, h⟩ := run_append_c w base v n xs hown ad k c cs hl hc h1 hb hbase
 refine wpList_plain hgd fun _ hK' => ?_
 unfold Oper.wp execOp
 simp only [ho, hty, resolve, invoke, builtin, Sem.run_bind, Sem.run_pure, Result.andThen_ok, List.map_toArray, List.map_cons, List.map_nil, hs, hx, hrun]
 exact hK' _ _ (hK v' w' h)
def CatP (n : Nat) (cs : List Value) (w : World) (r : Ending) (w' : World) : Prop := ∃ v, r = .returned v ∧ OwnK 27 6 w' w.heap.size v n cs ∧ Below w.heap.size w w'
theorem cat_any (e : Nat) (ad1 ad2 : Addr) (k1 k2 c1 c2 : Nat) (cs1 cs2 : List Value) (w : World) (he : Blk w e 25 #[.slice (some ad1) k1 c1, .slice (some ad2) k2 c2]) (hl1 : cs1.length = k1 * 6) (hl2 : cs2.length = k2 * 6)
  (hc1 : ∀ j x, cs1[j]? = some x → w.cell? (ad1.add j) = some x) (hc2 : ∀ j x, cs2[j]? = some x → w.cell? (ad2.add j) = some x) (ho1 : ∀ u ∈ cs1, u.oneCell' = true) (ho2 : ∀ u ∈ cs2, u.oneCell' = true) (hk : k1 + k2 ≤ 1000000) :
  Calls Try.prog 50 #[.slice (some ⟨e, 0, none⟩) 2 2] w (CatP (k1 + k2) (cs1 ++ cs2) w) := by
 have up : ∀ (ad : Addr) (cs : List Value), (∀ j x, cs[j]? = some x → w.cell? (ad.add j) = some x) → ∀ W, Below w.heap.size w W → ∀ j x, cs[j]? = some x → W.cell? (ad.add j) = some x := fun ad cs h W hW j x hj => by
  have h1 := h j x hj
  exact (hW.cell (p := ad.add j) (World.block_lt_of_cell? w _ h1)).trans h1
 have HU1 := hHd (up ad1 cs1 hc1)
 have HU2 := hHd (up ad2 cs2 hc2)
 have HE : Hid (∀ W, Below w.heap.size w W → W.cell? ⟨e, 0, none⟩ = some (.slice (some ad1) k1 c1) ∧ W.cell? ⟨e, 1, none⟩ = some (.slice (some ad2) k2 c2)) := hHd (fun W hW => ⟨((he.below hW he.lt).cell 0).trans rfl, ((he.below hW he.lt).cell 1).trans rfl⟩)
 obtain ⟨q0, q1⟩ := HE.out w (Below.refl _ _)
 have HL := hHd (And.intro (And.intro hl1 hl2) (And.intro ho1 ho2))
 have HG : Hid (Calls Try.prog 58 #[.slice none 0 0, .int .i64 ((k1 : Int) + (k2 : Int))] w (GrowP w)) := hHd (by
  have h := grow_any (k1 + k2) w hk
  rw [Int.natCast_add] at h
  exact h)
 have i1 : (0 : Int) ≤ (k1 : Int) := by omega
 have i2 : (0 : Int) ≤ (k2 : Int) := by omega
 have i3 : (k1 : Int) + (k2 : Int) ≤ 1000000 := by omega
 have i4 : ¬ (k1 : Int) < 0 := by omega
 have i5 : ¬ (k1 : Int) + (k2 : Int) < 0 := by omega
 have i6 : (k1 : Int) ≤ 1000000 := by omega
 have HK := hHd hk
 clear he hl1 hl2 hc1 hc2 ho1 ho2 up hk
 go_enter Try.func50, Try.ntmps50
 go_wp2
 refine wp_loop_rounds 3 ?_
 rw [rounds_succ]
 go_wp2
 rw [rounds_succ]
 go_wp2
 rw [rounds_succ]
 go_wp2_with fail
 refine HG.out.mono ?_
 rintro r w2 ⟨v2, rfl, hown, hb2⟩
 obtain ⟨A2, c3, rfl⟩ := hown.shape
 have HO2 := hHd hown
 have HB2 := hHd hb2
 obtain ⟨p0, p1⟩ := HE.out w2 hb2
 clear hown hb2 q0 q1
 go_wp2
 refine wp_loop_rounds 3 ?_
 rw [rounds_succ]
 go_wp2_with (at_builtin; refine wpList_append_c rfl (.tmp 31) (.tmp 32) rfl rfl w.heap.size (.slice A2 0 c3) 0 [] rfl HO2.out ad1 k1 c1 cs1 rfl HL.out.1.1 (HU1.out _ HB2.out) HL.out.2.1 (by have := HK.out; omega) HB2.out.size ?_)
 intro v3 w3 hap
 have hb3 : Below w.heap.size w w3 := HB2.out.trans ((Below.refl _ _).grown hap.2.1 HB2.out.size (fun b e => (HO2.out.lt b e).1))
 obtain ⟨A3, c4, e3⟩ := hap.1.shape
 (try simp only [Nat.zero_add] at e3)
 subst e3
 have ho3 : OwnK 27 6 w3 w.heap.size (.slice A3 k1 c4) k1 cs1 := by
  have h := hap.1
  (try simp only [Nat.zero_add, List.nil_append] at h)
  exact h
 have HO3 := hHd ho3
 have HB3 := hHd hb3
 obtain ⟨q0, q1⟩ := HE.out w3 hb3
 clear hap hb3 ho3 p0 p1
 go_wp2
 rw [rounds_succ]
 go_wp2_with (at_builtin; refine wpList_append_c rfl (.tmp 31) (.tmp 32) rfl rfl w.heap.size (.slice A3 k1 c4) k1 cs1 rfl HO3.out ad2 k2 c2 cs2 rfl HL.out.1.2 (HU2.out _ HB3.out) HL.out.2.2 HK.out HB3.out.size ?_)
 intro v4 w4 hap
 have hb4 : Below w.heap.size w w4 := HB3.out.trans ((Below.refl _ _).grown hap.2.1 HB3.out.size (fun b e => (HO3.out.lt b e).1))
 have HP : Hid (CatP (k1 + k2) (cs1 ++ cs2) w (.returned v4) w4) := hHd ⟨v4, rfl, hap.1, hb4⟩
 obtain ⟨v5, hv5⟩ : ∃ v5, v5 = v4 := ⟨_, rfl⟩
 subst hv5
 clear hap hb4 q0 q1
 go_wp2
 rw [rounds_succ]
 go_wp2
 go_ret
 exact HP.out
theorem withF_del {f : NdF} {i : Nat} : withF f i 1 .nil = (Fr.take i f).app (Fr.drop (i + 1) f) := by
 unfold withF
 rfl
theorem cut_sit {w w3 : World} {base g o i : Nat} {pa : NdD} {pf : NdF} {xs1 xs2 : List Value} {z : Nd} {v v' : Value} {F1 Fk F2 : List Nat}
  (hcl : ∀ j u, (ndC pa v)[j]? = some u → w.cell? ⟨g, o + j, none⟩ = some u) (hi : pf.get? i = some z) (hT1 : OwnT w base (Fr.take i pf) xs1 F1) (hT2 : OwnT w base (Fr.drop (i + 1) pf) xs2 F2)
  (hnd : (v.ownBlock.toList ++ (F1 ++ (Fk ++ F2))).Nodup) (hg : g ∉ v.ownBlock.toList ++ (F1 ++ (Fk ++ F2))) (hgf : Fresh9 base w g) (hB : Below w.heap.size w w3) (hbs : base ≤ w.heap.size)
  (hI : OwnK 27 6 w3 base v' (pf.len - 1) (xs1 ++ xs2)) (hv' : ∀ h, v'.ownBlock = some h → w.heap.size ≤ h) :
  ChgN base g o (pa, withF pf i 1 .nil) (v.ownBlock.toList ++ (F1 ++ (Fk ++ F2))) [] w (w3.setCell ⟨g, o + 5, none⟩ v') := by
 have hgl := hgf.lt
 have hnd2 := (List.nodup_append.1 hnd).2.1
 simp only [List.nodup_append, List.mem_append] at hnd2
 obtain ⟨nd1, ⟨-, nd2, -⟩, nd12⟩ := hnd2
 have hF1 : ∀ h, h ∈ F1 → h < w.heap.size := fun h hh => (hT1.fresh h hh).lt
 have hF2 : ∀ h, h ∈ F2 → h < w.heap.size := fun h hh => (hT2.fresh h hh).lt
 have hg1 : g ∉ F1 := fun h => hg (by simp [h])
 have hg2 : g ∉ F2 := fun h => hg (by simp [h])
 have kept : ∀ h, h < w.heap.size → h ≠ g → (w3.setCell ⟨g, o + 5, none⟩ v').heap[h]? = w.heap[h]? := fun h hh h1 => (Below.heap_setCell _ _ _ _ h1).trans (hB.block h hh)
 obtain ⟨hgb, cs, t, hcs⟩ := hgf
 have hcs3 : w3.heap[g]? = some (.cells cs t (0, 0)) := (hB.block g hgl).trans hcs
 have hset : (w3.setCell ⟨g, o + 5, none⟩ v').heap[g]? = some (.cells (cs.setIfInBounds (o + 5) v') t (0, 0)) := by simp [World.setCell, Array.getElem?_modify, hcs3]
 have hsz5 : o + 5 < cs.size := by
  have := hcl 5 v rfl
  rw [cell_of_row w g (o + 5) cs t (0, 0) hcs] at this
  exact (Array.getElem?_eq_some_iff.1 this).1
 have hlen : (withF pf i 1 .nil).len = pf.len - 1 := by
  have h1 := Fr.get_lt hi
  have h2 := with_len (f := pf) (l := .nil) (a := i) (m := 1) (by omega)
  simp only [Fr.len] at h2
  omega
 refine ⟨v'.ownBlock.toList ++ (F1 ++ F2), ⟨v', fun j u hu => ?_, xs1 ++ xs2, F1 ++ F2, rfl, ?_, ?_⟩, ?_, ?_, ?_, ?_, ?_, ?_⟩
 ·have hj : j < 6 := (List.getElem?_eq_some_iff.1 hu).1
  rw [cell_of_row _ g (o + j) _ t (0, 0) hset]
  by_cases h5 : j = 5
  ·subst h5
   rw [Array.getElem?_setIfInBounds, if_pos rfl, if_pos hsz5]
   exact hu
  ·rw [Array.getElem?_setIfInBounds, if_neg (by omega), ← cell_of_row w g (o + j) cs t (0, 0) hcs]
   refine hcl j u ?_
   have : j = 0 ∨ j = 1 ∨ j = 2 ∨ j = 3 ∨ j = 4 := by omega
   rcases this with rfl | rfl | rfl | rfl | rfl <;> exact hu
 ·rw [hlen]
  exact hI.keep (fun h e => Below.heap_setCell _ _ _ _ (by have := hv' h e; show h ≠ g; omega))
 ·rw [withF_del]
  exact OwnT.app (hT2.keep (Nat.le_refl _) (fun h hh => kept h (hF2 h hh) (fun e => hg2 (e ▸ hh)))) (hT1.keep (Nat.le_refl _) (fun h hh => kept h (hF1 h hh) (fun e => hg1 (e ▸ hh))))
 ·have hin : (F1 ++ F2).Nodup := List.nodup_append.2 ⟨nd1, nd2, fun p hp r hr => nd12 p hp r (.inr hr)⟩
  cases e : v'.ownBlock with
  | none => simpa using hin
  | some h =>
   simp only [Option.toList, List.cons_append, List.nil_append, List.nodup_cons, List.mem_append, not_or]
   have := hv' h e
   exact ⟨⟨fun hm => by have := hF1 h hm; omega, fun hm => by have := hF2 h hm; omega⟩, hin⟩
 ·intro hm
  simp only [List.mem_append, Option.mem_toList] at hm
  rcases hm with hm | hm | hm
  ·have := hv' g hm; omega
  ·exact hg1 hm
  ·exact hg2 hm
 ·intro h hm
  simp only [List.mem_append, Option.mem_toList] at hm ⊢
  rcases hm with hm | hm | hm
  ·exact .inr (.inr (hv' h hm))
  ·exact .inl (.inr (.inl hm))
  ·exact .inl (.inr (.inr (.inr hm)))
 ·exact ⟨cs, _, t, hcs, hset, by simp, fun j hj => by rw [Array.getElem?_setIfInBounds, if_neg (by omega)]⟩
 ·intro h hh h1 h2
  exact kept h hh h1
 ·exact (hB.mono hbs).setCell (p := ⟨g, o + 5, none⟩) hgb _
end Go.Proofs.Ythmobcaidhgeaaa

/- EdtRefG TreMem TreRefA TreRefB -/
import Derived.Test.YtleidkpdpabkpaaGreatDoorAM5
set_option linter.unusedSimpArgs false
set_option linter.unusedVariables false
set_option maxRecDepth 100000
set_option maxHeartbeats 8000000
namespace Go.Proofs.YtleidkpdpabkpaaGreatDoor
open Go.RowKit
section
attribute [local go_sem] Oper.semAt_some
theorem dat_drop18 {t u : Nat} {d : List UInt8} {k : Fo} {f : Fo} {j : Nat} (h : Fo.drop j f = .cons u d k (Fo.drop (j + 1) f)) : dat18 t (Fo.drop j f) = if u = t then d else dat18 t (Fo.drop (j + 1) f) := by rw [h]; rfl
theorem rdata18_any (f : Fo) (t : Nat) (v : Value) (w : World) (hv : FV DataR w (Lo w) v f) (hl : f.len ≤ 1000000) :
  Calls Tryz.prog 35 #[v, .int .u64 (t : Int)] w (fun r w' => r = .returned (.string (txt (dat18 t f))) ∧ w = w') := by
 obtain ⟨A, c, rfl⟩ := hv.shape
 have HV := hHd hv
 clear hv
 go_enter Tryz.func35, Tryz.ntmps35
 go_wp2
 go_loopw [5] (fun i wr => ∃ (j : Nat), j ≤ f.len ∧ i = .int .i64 (j : Int) ∧ Hid (dat18 t f = dat18 t (Fo.drop j f)) ∧ wr = w) (fun i _ => f.len - (intOf i).toNat)
 case atStart => exact ⟨0, Nat.zero_le _, rfl, hHd rfl, rfl⟩
 case round =>
  obtain ⟨j, hj, rfl, HR, rfl⟩ := hrel
  by_cases hlt : j < f.len
  ·obtain ⟨b, o, c', u, d, k, hve, hcap, hS, hdr, htk, ht64, hc0, ⟨dv, hc1, hdv⟩, ⟨kv, hc2, hkv⟩⟩ := HV.out.at hlt
   injection hve with e1 e2 e3
   subst e1 e3
   have hdv' : dv = .string (txt d) := hdv
   subst hdv'
   have HD := hHd (dat_drop18 (t := t) hdr)
   have i1 : (0 : Int) ≤ (j : Int) := by omega
   have i2 : (j : Int) < (f.len : Int) := by omega
   clear hdr htk ht64 hkv hc2 hS hdv hcap
   by_cases hu : u = t
   ·subst hu
    have e1 : ((u : Int) == (u : Int)) = true := beq_self_eq_true _
    have HX : Hid (dat18 u f = d) := hHd (by rw [HR.out, HD.out, if_pos rfl])
    go_wp2
    go_ret
    exact ⟨by rw [HX.out]; rfl, rfl⟩
   ·have e1 : ((u : Int) == (t : Int)) = false := by rw [beq_eq_false_iff_ne]; omega
    have e2 : (u == t) = false := beq_eq_false_iff_ne.2 hu
    have HX : Hid (dat18 t f = dat18 t (Fo.drop (j + 1) f)) := hHd (by rw [HR.out, HD.out, if_neg hu])
    clear hu
    go_wp2
    go_roundw
    case rel => exact ⟨j + 1, by omega, by go_num, HX, trivial⟩
    case measure => simp [intOf]; omega
  ·have hje : j = f.len := by omega
   have i2 : ¬ (j : Int) < (f.len : Int) := by omega
   have HX : Hid (dat18 t f = []) := hHd (by
    rw [HR.out, hje]
    have h := Fo.len_drop f.len f
    rw [Nat.sub_self] at h
    cases hd : Fo.drop f.len f with
    | nil => rfl
    | cons => rw [hd] at h; simp [Fo.len] at h)
   clear hje
   go_wp2
   go_ret
   exact ⟨by rw [HX.out]; rfl, rfl⟩
def strip18 : List UInt8 → List UInt8
 | [] => []
 | b :: l => if b.toNat = 0 then strip18 l else b :: l
def V18 (s : List UInt8) : Nat := if (strip18 s).length ≤ 8 then valB (strip18 s) else 0
theorem strip_val18 : ∀ s : List UInt8, valB (strip18 s) = valB s ∧ (strip18 s).length ≤ s.length := by
 intro s
 induction s with
 | nil => exact ⟨rfl, Nat.le_refl _⟩
 | cons b l ih =>
  unfold strip18
  by_cases hb : b.toNat = 0
  ·rw [if_pos hb, valB_zero_cons l hb]
   exact ⟨ih.1, Nat.le_trans ih.2 (Nat.le_succ _)⟩
  ·rw [if_neg hb]
   exact ⟨rfl, Nat.le_refl _⟩
theorem V_least18 (n : Nat) (h : n < 18446744073709551616) : V18 (leastB n) = n := by
 have h8 : (leastB n).length ≤ 8 := by unfold leastB; rw [bigB_length]; exact (lenB_spec 8 n (by omega)).2.2
 obtain ⟨h1, h2⟩ := strip_val18 (leastB n)
 unfold V18
 rw [if_pos (by omega), h1]
 unfold leastB
 rw [valB_bigB, Nat.mod_eq_of_lt (lenB_spec 8 n (by omega)).1]
theorem strip_cons18 {b : UInt8} {l : List UInt8} (h : b.toNat = 0) : strip18 (b :: l) = strip18 l := by
 show (if b.toNat = 0 then strip18 l else b :: l) = _
 rw [if_pos h]
theorem rvalue18_any (s : List UInt8) (w : World) :
  Calls Tryz.prog 93 #[.string (txt s)] w fun r w' => r = .returned (.tuple #[.int .u64 (V18 s : Int), .bool (decide ((strip18 s).length ≤ 8))]) ∧ w = w' := by
 go_enter Tryz.func93, Tryz.ntmps93
 go_wp2
 go_loop [0] (fun v => ∃ t : List UInt8, v = .string (txt t) ∧ Hid (strip18 t = strip18 s)) (fun v => lenOf' v)
 case atStart => exact ⟨s, rfl, hHd rfl⟩
 case round =>
  obtain ⟨t, rfl, HT⟩ := hrel
  have hsz := txt_size t
  have hways : (∃ b t', t = b :: t' ∧ b.toNat = 0) ∨ (∃ (h : 0 < (txt t).size), (!(txt t).toList.isEmpty) = true ∧ ((((txt t)[0]'h).toNat : Int) == 0) = false ∧ strip18 t = t) ∨ ((!(txt t).toList.isEmpty) = false ∧ strip18 t = t) := by
   cases t with
   | nil => exact .inr (.inr ⟨txt_none, rfl⟩)
   | cons b t' =>
    by_cases hb : b.toNat = 0
    ·exact .inl ⟨b, t', rfl, hb⟩
    ·have h : 0 < (txt (b :: t')).size := by rw [txt_size]; simp
     refine .inr (.inl ⟨h, txt_some (by simp), ?_, ?_⟩)
     ·rw [txt_get (b :: t') 0 (by simp) h]
      show ((b.toNat : Int) == 0) = false
      simpa using hb
     ·show (if b.toNat = 0 then strip18 t' else b :: t') = _
      rw [if_neg hb]
  rcases hways with ⟨b, t', rfl, hb⟩ | ⟨hlt, hne, hnz, hss⟩ | ⟨hne, hss⟩
  ·have hne := txt_some (l := b :: t') (by simp)
   have hlt : 0 < (txt (b :: t')).size := by rw [txt_size]; simp
   have hz : ((((txt (b :: t'))[0]'hlt).toNat : Int) == 0) = true := by
    rw [txt_get (b :: t') 0 (by simp) hlt]
    show ((b.toNat : Int) == 0) = true
    simpa using hb
   have HV := hHd (strip_cons18 (l := t') hb)
   have hx := txt_extract (b :: t') 1 (b :: t').length
   have hx2 : ((b :: t').take (b :: t').length).drop 1 = t' := by rw [List.take_of_length_le (Nat.le_refl _)]; rfl
   rw [hx2] at hx
   have HX := hHd hx
   clear hx hx2 hb
   go_wp2
   refine ⟨⟨t', ?_, ?_⟩, ?_⟩
   ·show Value.string ((txt (b :: t')).extract 1 (b :: t').length) = _
    rw [HX.out]
   ·exact hHd (HV.out.symm.trans HT.out)
   ·show ((txt (b :: t')).extract 1 (b :: t').length).size < (txt (b :: t')).size
    rw [HX.out, txt_size, txt_size]; simp
  all_goals
   have HS : Hid (strip18 s = t) := hHd (by rw [← HT.out, hss])
   clear hss
   by_cases h8 : t.length ≤ 8
   ·have h9 : ¬ (8 : Int) < (t.length : Int) := by omega
    go_wp2
    try clear hlt
    clear hne
    go_loop [4, 5] (fun x i => ∃ k : Nat, k ≤ t.length ∧ i = .int .i64 (k : Int) ∧ x = .int .u64 (valB (t.take k) : Int)) (fun _ i => t.length - (intOf i).toNat)
    case atStart => exact ⟨0, Nat.zero_le _, rfl, rfl⟩
    case round =>
     obtain ⟨k, hk, rfl, rfl⟩ := hrel
     by_cases hlk : k < t.length
     ·have hin : k < (txt t).size := by rw [txt_size]; exact hlk
      have hix := txt_get t k hlk hin
      have hle := pow_val (l := t.take (k + 1)) (by rw [List.length_take]; omega)
      obtain ⟨X, hX⟩ : ∃ X, X = valB (t.take k) := ⟨_, rfl⟩
      obtain ⟨c, hc, hfin⟩ : ∃ c, c = (t[k]'hlk).toNat ∧ valB (t.take (k + 1)) = 256 * X + c := ⟨_, rfl, by rw [valB_take_snoc t k hlk, ← hX]; omega⟩
      have hc256 : c < 256 := by rw [hc]; exact byte_lt _
      have hXc : 256 * X + c < 18446744073709551616 := by rw [← hfin]; exact hle
      have HF := hHd hfin
      have hix' : (((txt t)[k]'hin).toNat : Int) = (c : Int) := by rw [hix, ← hc]
      rw [← hX]
      clear hX hc hle hfin hix
      go_wp2
      go_round
      case rel => exact ⟨k + 1, by omega, by go_num, by rw [HF.out]; go_num⟩
      case measure => simp [intOf]; omega
     ·go_wp2
      go_ret2
      exact ⟨by unfold V18; rw [List.take_of_length_le (by omega), HS.out, if_pos h8, decide_eq_true h8]; rfl, rfl⟩
   ·have h9 : (8 : Int) < (t.length : Int) := by omega
    go_wp2
    go_ret2
    exact ⟨by unfold V18; rw [HS.out, if_neg h8, decide_eq_false h8]; rfl, rfl⟩
end
abbrev ndC (a : NdD) (kv : Value) : List Value := [.string (txt a.name), .string (txt a.key), .int .i64 a.kind, .int .u64 (a.num : Int), .string (txt a.text), kv]
def NdT : RdOf NdD := fun _ _ cs a => ∃ kv, cs = ndC a kv ∧ kv.oneCell' = true
def NdA : RdOf NdD := fun w N cs a => NdT w N cs a ∧ ∀ b o n c, cs[5]? = some (.slice (some ⟨b, o, none⟩) n c) → o % 6 = 0
def noB : Nat → Prop := fun _ => False
theorem stay_nd : StayD NdT := fun _ _ _ _ _ _ _ _ h => h
theorem one_nd : OneD NdT := by
 intro w N cs a ⟨kv, h1, h4⟩ u hu
 subst h1
 simp only [List.mem_cons, List.not_mem_nil, or_false] at hu
 rcases hu with rfl | rfl | rfl | rfl | rfl | rfl <;> first | rfl | exact h4
def LieB (b : Nat) (w : World) (cs : List Value) (x : Nd) : Prop := FrN NdT 6 5 w (fun g => g < b) noB cs x.1 x.2
def RowT (b : Nat) (w : World) (v : Value) (f : NdF) : Prop := FrV NdT 6 5 w (fun g => g < b) noB v f
abbrev LieN (w : World) (cs : List Value) (x : Nd) : Prop := LieB w.heap.size w cs x
theorem LieB.shape {b : Nat} {w : World} {cs : List Value} {x : Nd} (h : LieB b w cs x) : ∃ A c, cs = ndC x.1 (.slice A x.2.len c) ∧ RowT b w (.slice A x.2.len c) x.2 := by
 obtain ⟨_, ⟨kv, rfl, _⟩, v, h5, h6⟩ := h
 obtain ⟨A, c, rfl⟩ := h6.shape
 simp at h5
 subst h5
 exact ⟨A, c, rfl, h6⟩
theorem LieB.make {b : Nat} {w : World} {a : NdD} {f : NdF} {v : Value} (h : RowT b w v f) : LieB b w (ndC a v) (a, f) := by
 refine ⟨rfl, ⟨v, rfl, ?_⟩, v, rfl, h⟩
 obtain ⟨A, c, rfl⟩ := h.shape
 rfl
theorem LieB.keep {b b' : Nat} {w w' : World} {cs : List Value} {x : Nd} (h : LieB b w cs x) (hk : ∀ g, g < b → w'.heap[g]? = w.heap[g]?) (hb : b ≤ b') : LieB b' w' cs x :=
 FrN.kept stay_nd h hk (fun g hg => Nat.lt_of_lt_of_le hg hb) (fun _ h => h.elim) (fun _ h => h)
theorem RowT.keep {b b' : Nat} {w w' : World} {v : Value} {f : NdF} (h : RowT b w v f) (hk : ∀ g, g < b → w'.heap[g]? = w.heap[g]?) (hb : b ≤ b') : RowT b' w' v f :=
 FrV.kept stay_nd h hk (fun g hg => Nat.lt_of_lt_of_le hg hb) (fun _ h => h.elim) (fun _ h => h)
theorem LieB.under {b b' B : Nat} {w w' : World} {cs : List Value} {x : Nd} (h : LieB b w cs x) (hB : Below B w w') (hb : b ≤ B) (hb' : b ≤ b') : LieB b' w' cs x := h.keep (fun g hg => hB.block g (Nat.lt_of_lt_of_le hg hb)) hb'
theorem RowT.under {b b' B : Nat} {w w' : World} {v : Value} {f : NdF} (h : RowT b w v f) (hB : Below B w w') (hb : b ≤ B) (hb' : b ≤ b') : RowT b' w' v f := h.keep (fun g hg => hB.block g (Nat.lt_of_lt_of_le hg hb)) hb'
theorem LieB.below {w w' : World} {cs : List Value} {x : Nd} (h : LieN w cs x) (hb : Below w.heap.size w w') : LieN w' cs x := h.under hb (Nat.le_refl _) hb.size
theorem RowT.below {w w' : World} {v : Value} {f : NdF} (h : RowT w.heap.size w v f) (hb : Below w.heap.size w w') : RowT w'.heap.size w' v f := h.under hb (Nat.le_refl _) hb.size
theorem LieB.zero (b : Nat) (w : World) : LieB b w (ndC zeroT (.slice none 0 0)) noN := LieB.make (FrV.empty _ _ _)
theorem RowT.at {b : Nat} {w : World} {A : Option Addr} {n c : Nat} {f : NdF} (h : RowT b w (.slice A n c) f) {i : Nat} {y : Nd} (hy : f.get? i = some y) :
  ∃ g o A' c', A = some ⟨g, o, none⟩ ∧ n = f.len ∧ n ≤ c ∧ g < b ∧ RowT b w (.slice A' y.2.len c') y.2 ∧ ∀ j u, (ndC y.1 (.slice A' y.2.len c'))[j]? = some u → w.cell? ⟨g, o + i * 6 + j, none⟩ = some u := by
 obtain ⟨a, k⟩ := y
 obtain ⟨g, o, c1, cs, e, h1, h2, h3, h4⟩ := FrV.at h hy
 injection e with e1 e2 e3
 subst e1 e2 e3
 obtain ⟨A', c', rfl, h6⟩ := LieB.shape (x := (a, k)) h3
 exact ⟨g, o, A', c', rfl, rfl, h1, h2, h6, h4⟩
theorem RowT.len {b : Nat} {w : World} {A : Option Addr} {n c : Nat} {f : NdF} (h : RowT b w (.slice A n c) f) : n = f.len ∧ n ≤ c := by
 obtain ⟨A', c', e, h1, _⟩ := h
 injection e with e1 e2 e3
 subst e2 e3
 exact ⟨rfl, h1⟩
def WayV (b : Nat) (w : World) (v : Value) (l : List Stp) : Prop := ∃ A c, v = .slice A l.length c ∧ l.length ≤ c ∧ (0 < l.length → ∃ g o, A = some ⟨g, o, none⟩ ∧ g < b ∧
 ∀ j s, l[j]? = some s → w.cell? ⟨g, o + j * 2, none⟩ = some (.string (txt s.1)) ∧ w.cell? ⟨g, o + j * 2 + 1, none⟩ = some (.string (txt s.2)))
theorem WayV.keep {b b' : Nat} {w w' : World} {v : Value} {l : List Stp} (h : WayV b w v l) (hk : ∀ g, g < b → w'.heap[g]? = w.heap[g]?) (hb : b ≤ b') : WayV b' w' v l := by
 obtain ⟨A, c, rfl, h1, h2⟩ := h
 refine ⟨A, c, rfl, h1, fun h0 => ?_⟩
 obtain ⟨g, o, rfl, h3, h4⟩ := h2 h0
 refine ⟨g, o, rfl, Nat.lt_of_lt_of_le h3 hb, fun j s hs => ?_⟩
 obtain ⟨h5, h6⟩ := h4 j s hs
 exact ⟨(World.cell?_of_block (w := w) (hk g h3)).trans h5, (World.cell?_of_block (w := w) (hk g h3)).trans h6⟩
theorem WayV.under {b b' B : Nat} {w w' : World} {v : Value} {l : List Stp} (h : WayV b w v l) (hB : Below B w w') (hb : b ≤ B) (hb' : b ≤ b') : WayV b' w' v l := h.keep (fun g hg => hB.block g (Nat.lt_of_lt_of_le hg hb)) hb'
theorem WayV.below {w w' : World} {v : Value} {l : List Stp} (h : WayV w.heap.size w v l) (hb : Below w.heap.size w w') : WayV w'.heap.size w' v l := h.under hb (Nat.le_refl _) hb.size
theorem WayV.shape {b : Nat} {w : World} {v : Value} {l : List Stp} (h : WayV b w v l) : ∃ A c, v = .slice A l.length c := by
 obtain ⟨A, c, h, _⟩ := h; exact ⟨A, c, h⟩
theorem WayV.at {b : Nat} {w : World} {A : Option Addr} {n c : Nat} {l : List Stp} (h : WayV b w (.slice A n c) l) {j : Nat} {s : Stp} (hs : l[j]? = some s) :
  ∃ g o, A = some ⟨g, o, none⟩ ∧ n = l.length ∧ n ≤ c ∧ g < b ∧ w.cell? ⟨g, o + j * 2, none⟩ = some (.string (txt s.1)) ∧ w.cell? ⟨g, o + j * 2 + 1, none⟩ = some (.string (txt s.2)) := by
 have hlt := (List.getElem?_eq_some_iff.1 hs).1
 obtain ⟨A', c', e, h1, h2⟩ := h
 injection e with e1 e2 e3
 subst e1 e2 e3
 obtain ⟨g, o, rfl, h3, h4⟩ := h2 (by omega)
 obtain ⟨h5, h6⟩ := h4 j s hs
 exact ⟨g, o, rfl, rfl, h1, h3, h5, h6⟩
theorem WayV.nil (b : Nat) (w : World) (A : Option Addr) (c : Nat) : WayV b w (.slice A 0 c) [] := ⟨A, c, rfl, Nat.zero_le _, fun h => absurd h (by simp)⟩
theorem WayV.tail {b : Nat} {w : World} {g o n c : Nat} {s : Stp} {l : List Stp} (h : WayV b w (.slice (some ⟨g, o, none⟩) n c) (s :: l)) : WayV b w (.slice (some ⟨g, o + 2, none⟩) l.length (c - 1)) l := by
 obtain ⟨A', c', e, h1, h2⟩ := h
 injection e with e1 e2 e3
 subst e2 e3
 obtain ⟨g', o', e4, h3, h4⟩ := h2 (by simp)
 rw [← e1] at e4
 injection e4 with e4
 injection e4 with e5 e6 e7
 subst e5 e6
 simp only [List.length_cons] at h1
 refine ⟨_, _, rfl, by omega, fun _ => ⟨g, o + 2, rfl, h3, fun j u hu => ?_⟩⟩
 have h5 := h4 (j + 1) u (by simpa using hu)
 rw [show o + (j + 1) * 2 = o + 2 + j * 2 by omega] at h5
 exact h5
theorem WayV.front {b : Nat} {w : World} {A : Option Addr} {n c : Nat} {l : List Stp} (m : Nat) (hm : m ≤ l.length) (h : WayV b w (.slice A n c) l) : WayV b w (.slice A m c) (l.take m) := by
 obtain ⟨A', c', e, h1, h2⟩ := h
 injection e with e1 e2 e3
 subst e1 e2 e3
 have hl : (l.take m).length = m := by rw [List.length_take]; omega
 refine ⟨A, c, by rw [hl], by omega, fun h0 => ?_⟩
 obtain ⟨g, o, rfl, h3, h4⟩ := h2 (by omega)
 refine ⟨g, o, rfl, h3, fun j s hs => h4 j s ?_⟩
 rw [List.getElem?_take] at hs
 split at hs
 ·exact hs
 ·cases hs
def Fresh9 (base : Nat) (w : World) (g : Nat) : Prop := base ≤ g ∧ ∃ cs t, w.heap[g]? = some (.cells cs t (0, 0))
theorem Fresh9.lt {base : Nat} {w : World} {g : Nat} (h : Fresh9 base w g) : g < w.heap.size := by
 obtain ⟨_, cs, t, h⟩ := h
 exact (Array.getElem?_eq_some_iff.1 h).1
def NewT (base : Nat) (w : World) (cs : List Value) (x : Nd) : Prop := ∃ S, (∀ g, S g → Fresh9 base w g) ∧ FrN NdA 6 5 w S noB cs x.1 x.2
theorem FrAt.plain {w : World} {S N : Nat → Prop} : ∀ {f : NdF} {b o : Nat}, FrAt NdA 6 5 w S N f b o → FrAt NdT 6 5 w S N f b o := by
 intro f
 induction f with
 | nil => intro b o _; trivial
 | cons a k r ihk ihr =>
  intro b o ⟨⟨cs, h1, h2, h3, A, c, h4, h5, h6⟩, h7⟩
  refine ⟨⟨cs, h1, h2, h3.1, A, c, h4, h5, fun h0 => ?_⟩, ihr h7⟩
  obtain ⟨b', o', h8, h9, h10⟩ := h6 h0
  exact ⟨b', o', h8, h9, ihk h10⟩
theorem FrV.plain {w : World} {S N : Nat → Prop} {v : Value} {f : NdF} (h : FrV NdA 6 5 w S N v f) : FrV NdT 6 5 w S N v f := by
 obtain ⟨A, c, rfl, h1, h2⟩ := h
 refine ⟨A, c, rfl, h1, fun h0 => ?_⟩
 obtain ⟨b, o, h3, h4, h5⟩ := h2 h0
 exact ⟨b, o, h3, h4, h5.plain⟩
theorem NewT.lies {base : Nat} {w : World} {cs : List Value} {x : Nd} (h : NewT base w cs x) : LieN w cs x := by
 obtain ⟨S, h1, h2, h3, v, h4, h5⟩ := h
 exact FrN.mono stay_nd ⟨h2, h3.1, v, h4, h5.plain⟩ (fun g hg => (h1 g hg).lt) (fun _ h => h)
def TreP (x : Nd) (u : Value) (w : World) (r : Ending) (w' : World) : Prop := ∃ cs, r = .returned (.tuple #[.agg cs.toArray, u]) ∧ NewT w.heap.size w' cs x ∧ Below w.heap.size w w'
def TreP1 (x : Nd) (w : World) (r : Ending) (w' : World) : Prop := ∃ cs, r = .returned (.agg cs.toArray) ∧ NewT w.heap.size w' cs x ∧ Below w.heap.size w w'
def RTreP (x : Nd) (u : Value) (w : World) (r : Ending) (w' : World) : Prop := ∃ cs, r = .returned (.tuple #[.agg cs.toArray, u]) ∧ LieN w' cs x ∧ Below w.heap.size w w'
def RTreP1 (x : Nd) (w : World) (r : Ending) (w' : World) : Prop := ∃ cs, r = .returned (.agg cs.toArray) ∧ LieN w' cs x ∧ Below w.heap.size w w'
def LieP (b B : Nat) (w : World) (cs : List Value) (x : Nd) : Prop := FrN NdT 6 5 w (fun g => g < b ∨ (B ≤ g ∧ g < w.heap.size)) noB cs x.1 x.2
def RowP (b B : Nat) (w : World) (v : Value) (f : NdF) : Prop := FrV NdT 6 5 w (fun g => g < b ∨ (B ≤ g ∧ g < w.heap.size)) noB v f
theorem LieP.shape {b B : Nat} {w : World} {cs : List Value} {x : Nd} (h : LieP b B w cs x) : ∃ A c, cs = ndC x.1 (.slice A x.2.len c) ∧ RowP b B w (.slice A x.2.len c) x.2 := by
 obtain ⟨_, ⟨kv, rfl, _⟩, v, h5, h6⟩ := h
 obtain ⟨A, c, rfl⟩ := h6.shape
 simp at h5
 subst h5
 exact ⟨A, c, rfl, h6⟩
theorem LieP.make {b B : Nat} {w : World} {a : NdD} {f : NdF} {v : Value} (h : RowP b B w v f) : LieP b B w (ndC a v) (a, f) := by
 refine ⟨rfl, ⟨v, rfl, ?_⟩, v, rfl, h⟩
 obtain ⟨A, c, rfl⟩ := h.shape
 rfl
theorem LieP.keep {b B b' B' : Nat} {w w' : World} {cs : List Value} {x : Nd} (h : LieP b B w cs x) (hk : ∀ g, g < b ∨ (B ≤ g ∧ g < w.heap.size) → w'.heap[g]? = w.heap[g]?) (hS : ∀ g, g < b ∨ (B ≤ g ∧ g < w.heap.size) → g < b' ∨ (B' ≤ g ∧ g < w'.heap.size)) : LieP b' B' w' cs x :=
 FrN.kept stay_nd h hk hS (fun _ h => h.elim) (fun _ h => h)
theorem LieP.lies {b B : Nat} {w : World} {cs : List Value} {x : Nd} (h : LieP b B w cs x) (hb : b ≤ w.heap.size) : LieN w cs x :=
 FrN.mono stay_nd h (fun g hg => by rcases hg with h | h <;> omega) (fun _ h => h)
theorem LieB.p {b : Nat} {w : World} {cs : List Value} {x : Nd} (h : LieB b w cs x) (B : Nat) : LieP b B w cs x := FrN.mono stay_nd h (fun g hg => .inl hg) (fun _ h => h)
theorem RowT.p {b : Nat} {w : World} {v : Value} {f : NdF} (h : RowT b w v f) (B : Nat) : RowP b B w v f := FrV.mono stay_nd h (fun g hg => .inl hg) (fun _ h => h)
def PTreP (b : Nat) (x : Nd) (u : Value) (w : World) (r : Ending) (w' : World) : Prop := ∃ cs, r = .returned (.tuple #[.agg cs.toArray, u]) ∧ LieP b w.heap.size w' cs x ∧ Below w.heap.size w w'
def PTreP1 (b : Nat) (x : Nd) (w : World) (r : Ending) (w' : World) : Prop := ∃ cs, r = .returned (.agg cs.toArray) ∧ LieP b w.heap.size w' cs x ∧ Below w.heap.size w w'
theorem PTreP.r {x : Nd} {u : Value} {w : World} {r : Ending} {w' : World} (h : PTreP w.heap.size x u w r w') : RTreP x u w r w' := by
 obtain ⟨cs, h1, h2, h3⟩ := h; exact ⟨cs, h1, h2.lies h3.size, h3⟩
theorem PTreP1.r {x : Nd} {w : World} {r : Ending} {w' : World} (h : PTreP1 w.heap.size x w r w') : RTreP1 x w r w' := by
 obtain ⟨cs, h1, h2, h3⟩ := h; exact ⟨cs, h1, h2.lies h3.size, h3⟩
theorem PTreP.flat {b : Nat} {a : NdD} {f : NdF} {u : Value} {w : World} {r : Ending} {w' : World} (h : PTreP b (a, f) u w r w') : ∃ A c, r = .returned (.tuple #[.agg (ndC a (.slice A f.len c)).toArray, u]) ∧ LieP b w.heap.size w' (ndC a (.slice A f.len c)) (a, f) ∧ Below w.heap.size w w' := by
 obtain ⟨cs, rfl, h2, h3⟩ := h
 obtain ⟨A, c, rfl, _⟩ := h2.shape
 exact ⟨A, c, rfl, h2, h3⟩
theorem PTreP1.flat {b : Nat} {a : NdD} {f : NdF} {w : World} {r : Ending} {w' : World} (h : PTreP1 b (a, f) w r w') : ∃ A c, r = .returned (.agg (ndC a (.slice A f.len c)).toArray) ∧ LieP b w.heap.size w' (ndC a (.slice A f.len c)) (a, f) ∧ Below w.heap.size w w' := by
 obtain ⟨cs, rfl, h2, h3⟩ := h
 obtain ⟨A, c, rfl, _⟩ := h2.shape
 exact ⟨A, c, rfl, h2, h3⟩
def Ans9 (v : Value) (w : World) (r : Ending) (w' : World) : Prop := r = .returned v ∧ Below w.heap.size w w'
theorem TreP.r {x : Nd} {u : Value} {w : World} {r : Ending} {w' : World} (h : TreP x u w r w') : RTreP x u w r w' := by
 obtain ⟨cs, h1, h2, h3⟩ := h; exact ⟨cs, h1, h2.lies, h3⟩
theorem TreP1.r {x : Nd} {w : World} {r : Ending} {w' : World} (h : TreP1 x w r w') : RTreP1 x w r w' := by
 obtain ⟨cs, h1, h2, h3⟩ := h; exact ⟨cs, h1, h2.lies, h3⟩
def Few9 (x : Nd) : Prop := x.2.size ≤ 1000000
abbrev cN (a : NdD) (v : Value) : Array Value := #[.string (txt a.name), .string (txt a.key), .int .i64 a.kind, .int .u64 (a.num : Int), .string (txt a.text), v]
theorem Ans9.bool {b c : Bool} {w : World} {r : Ending} {w' : World} (h : Ans9 (.bool b) w r w') (e : b = c) : Ans9 (.bool c) w r w' := by subst e; exact h
theorem rsizef_any (f : NdF) : ∀ (a : NdD) (A : Option Addr) (c : Nat) (w : World), RowT w.heap.size w (.slice A f.len c) f → f.size ≤ 1000000 →
  Calls Tryz.prog 16 #[.agg (cN a (.slice A f.len c))] w (Ans9 (.int .i64 ((f.size + 1 : Nat) : Int)) w) := by
 refine Fr.byKids (P := fun f => ∀ (a : NdD) (A : Option Addr) (c : Nat) (w : World), RowT w.heap.size w (.slice A f.len c) f → f.size ≤ 1000000 →
  Calls Tryz.prog 16 #[.agg (cN a (.slice A f.len c))] w (Ans9 (.int .i64 ((f.size + 1 : Nat) : Int)) w)) ?_ f
 clear f
 intro f hkids a A c w hk hsz
 have hB : Below w.heap.size w (w.alloc (.cells (cN a (.slice A f.len c)) 42)) := bAl
 have HB0 := hHd hB
 have HI := hHd hkids
 have HK : Hid (RowT w.heap.size w (.slice A f.len c) f) := hHd hk
 have HZ : Hid (f.size ≤ 1000000) := hHd hsz
 clear hkids hk hsz hB
 go_enter Tryz.func16, Tryz.ntmps16
 go_wp2
 go_loopw [3, 4] (fun m i wr => ∃ (j s : Nat), j ≤ f.len ∧ i = .int .i64 (j : Int) ∧ m = .int .i64 (s : Int) ∧ Hid (s = (Fr.take j f).size + 1) ∧ Blk wr w.heap.size 42 (cN a (.slice A f.len c)) ∧ Below w.heap.size w wr) (fun _ i _ => f.len - (intOf i).toNat)
 case atStart => exact ⟨0, 1, Nat.zero_le _, rfl, rfl, hHd (by simp [Fr.take, Fr.size]), Blk.new _ _ _, HB0.out⟩
 case round =>
  obtain ⟨j, s, hj, rfl, rfl, HS, hP, hB⟩ := hrel
  have p5 : wr.cell? ⟨w.heap.size, 5, none⟩ = some (.slice A f.len c) := (hP.cell 5).trans rfl
  have HBr := hHd hB
  by_cases hlt : j < f.len
  ·obtain ⟨a1, q, hg⟩ := Fr.get_some hlt
   obtain ⟨b, o, A', c', rfl, -, -, hbl, hrow, hcl⟩ := HK.out.at hg
   have hcell : ∀ i u, (ndC a1 (.slice A' q.len c'))[i]? = some u → wr.cell? ⟨b, o + j * 6 + i, none⟩ = some u := fun i u hu => (hB.cell (p := ⟨b, o + j * 6 + i, none⟩) hbl).trans (hcl i u hu)
   have q0 : wr.cell? ⟨b, o + j * 6, none⟩ = _ := hcell 0 _ rfl
   have q1 : wr.cell? ⟨b, o + j * 6 + 1, none⟩ = _ := hcell 1 _ rfl
   have q2 : wr.cell? ⟨b, o + j * 6 + 2, none⟩ = _ := hcell 2 _ rfl
   have q3 : wr.cell? ⟨b, o + j * 6 + 3, none⟩ = _ := hcell 3 _ rfl
   have q4 : wr.cell? ⟨b, o + j * 6 + 4, none⟩ = _ := hcell 4 _ rfl
   have q5 : wr.cell? ⟨b, o + j * 6 + 5, none⟩ = _ := hcell 5 _ rfl
   have i1 : (0 : Int) ≤ (j : Int) := by omega
   have i2 : (j : Int) < (f.len : Int) := by omega
   have i3 : (f.len : Int) ≤ 1000000 := by have := HZ.out; have := Fr.len_size f; omega
   have hts : (Fr.take (j + 1) f).size = (Fr.take j f).size + (q.size + 1) := by
    rw [(Fr.get_drop hg).2, Fr.size_app]; simp [Fr.size]
   have hle : (Fr.take (j + 1) f).size ≤ f.size := by
    have := congrArg Fr.size (Fr.take_app_drop (j + 1) f); rw [Fr.size_app] at this; omega
   obtain ⟨z, hz⟩ : ∃ z, z = q.size + 1 := ⟨_, rfl⟩
   have HI1 : Hid (Calls Tryz.prog 16 #[.agg (cN a1 (.slice A' q.len c'))] wr (Ans9 (.int .i64 (z : Int)) wr)) := hHd (by
    rw [hz]; exact HI.out j a1 q hg a1 A' c' wr (hrow.under hB (Nat.le_refl _) hB.size) (by have := HZ.out; omega))
   have i4 : (0 : Int) ≤ (s : Int) := by omega
   have i5 : (s : Int) ≤ 1000001 := by have := HS.out; have := HZ.out; omega
   have i6 : (0 : Int) ≤ (z : Int) := by omega
   have i7 : (z : Int) ≤ 1000001 := by have := HZ.out; omega
   have HS2 : Hid (s + z = (Fr.take (j + 1) f).size + 1) := hHd (by have := HS.out; omega)
   have HP := hHd hP
   clear hcl hg hrow hcell hts hle hz hP hB hbl
   go_wp2_with fail
   refine HI1.out.mono ?_
   rintro r w2 ⟨rfl, hb⟩
   have HP2 := hHd (HP.out.below hb HP.out.lt)
   have HB2 := hHd (HBr.out.trans (hb.mono HBr.out.size))
   clear hb
   go_wp2
   go_roundw
   case rel => exact ⟨j + 1, s + z, by omega, by go_num, by go_num, HS2, HP2.out, HB2.out⟩
   case measure => simp [intOf]; omega
  ·have i2 : ¬ (j : Int) < (f.len : Int) := by omega
   have HF : Hid (s = f.size + 1) := hHd (by have := HS.out; rw [show j = f.len by omega, Fr.take_all] at this; exact this)
   clear hP hB
   go_wp2
   go_ret
   exact ⟨by rw [HF.out]; rfl, HBr.out⟩
theorem rsizet_any (x : Nd) (cs : List Value) (w : World) (hx : LieN w cs x) (hf : Few9 x) : Calls Tryz.prog 16 #[.agg cs.toArray] w (Ans9 (.int .i64 (sizeX x : Int)) w) := by
 obtain ⟨A, c, rfl, hk⟩ := hx.shape
 exact rsizef_any x.2 x.1 A c w hk hf
end Go.Proofs.YtleidkpdpabkpaaGreatDoor

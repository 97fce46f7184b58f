/- PatFrn ForestB TreMem Drawn WayMem -/
import Derived.Test.YthmobcaidhgeaaaAM2
import Derived.Deep.RegionHeld3
set_option linter.unusedSimpArgs false
set_option linter.unusedVariables false
set_option maxRecDepth 100000
set_option maxHeartbeats 8000000
namespace Go.Proofs.Ythmobcaidhgeaaa
open Go.RowKit
theorem step_front {n n1 : Nd} {w : List Stp} {y : Nd} {x : EdD} {l : List EdD} {h0 h : NdF} (hn : getX n w = some y) (e : n1 = putK n w h0) (h1 : oneX n x = (n1, 0)) (h2 : Goes n1 l (putK n1 w h)) : Goes n (x :: l) (putK n w h) := by
 subst e
 rw [putK_putK _ _ w n hn] at h2
 exact Goes.cons h1 h2
theorem ed_less {b : NdD} {q s r : NdF} (w : List Stp) (h : allGt (stp b) r) : edF r (.cons b q s) w = newE (w ++ [stp b]) (b, q) :: edF r s w := by
 cases r with
 | nil => rw [edF_new]
 | cons c k r =>
  have h1 : lessX b c = true := h.1
  have h2 : lessX c b = false := by unfold lessX at h1 ⊢; exact lessS_asymm h1
  rw [edF_gt h2 h1]
theorem ed_same {b : NdD} {q r s p : NdF} (w : List Stp) : edF (p.app (.cons b q r)) (p.app (.cons b q s)) w = edF r s w := by
 rw [ed_prefix]
 exact ed_prefix w (.cons b q .nil)
theorem ed_front (f g : NdF) (w : List Stp) : ∀ (n : Nd) (a : NdD) (p : NdF) (l1 l2 : List EdD), getX n w = some (a, p.app f) → a.kind = 0 → rgtF (p.app f) = true → rgtF (p.app g) = true → edF f g w = l1 ++ l2 →
  ∃ h, Goes n l1 (putK n w h) ∧ rgtF h = true ∧ edF h (p.app g) w = l2 := by
 have zero : ∀ (f g : NdF) (w : List Stp) (n : Nd) (a : NdD) (p : NdF) (l2 : List EdD), getX n w = some (a, p.app f) → rgtF (p.app f) = true → edF f g w = [] ++ l2 → ∃ h, Goes n [] (putK n w h) ∧ rgtF h = true ∧ edF h (p.app g) w = l2 := fun f g w n a p l2 hn hf he => ⟨p.app f, by rw [putK_same w n hn]; exact Goes.nil n, hf, by rw [ed_prefix, he]; rfl⟩
 refine ed_ind (P := fun f g w => ∀ (n : Nd) (a : NdD) (p : NdF) (l1 l2 : List EdD), getX n w = some (a, p.app f) → a.kind = 0 → rgtF (p.app f) = true → rgtF (p.app g) = true → edF f g w = l1 ++ l2 → ∃ h, Goes n l1 (putK n w h) ∧ rgtF h = true ∧ edF h (p.app g) w = l2)
  (fun w n a p l1 l2 hn ha hf hg he => ?_) (fun c k r w ih n a p l1 l2 hn ha hf hg he => ?_) (fun b q s w ih n a p l1 l2 hn ha hf hg he => ?_) (fun c k r b q s w h ih n a p l1 l2 hn ha hf hg he => ?_) (fun c k r b q s w h1 h2 ih n a p l1 l2 hn ha hf hg he => ?_) (fun c k r b q s w h1 h2 hs ihk ih n a p l1 l2 hn ha hf hg he => ?_) f g w
 ·cases l1 with
  | nil => exact zero _ _ w n a p l2 hn hf he
  | cons x l1 => rw [edF_nil] at he; cases he
 ·cases l1 with
  | nil => exact zero _ _ w n a p l2 hn hf he
  | cons x l1 =>
   rw [edF_del, List.cons_append] at he
   injection he with e1 e2
   subst e1
   obtain ⟨h, g1, g2, g3⟩ := ih (putK n w (p.app r)) a p l1 l2 (putK_get _ w n hn) ha (by rw [← del_mid hf]; exact right_del hf) hg e2
   exact ⟨h, step_front hn rfl (by have h3 := one_del hn (get_mid hf); rwa [del_mid hf] at h3) g1, g2, g3⟩
 ·cases l1 with
  | nil => exact zero _ _ w n a p l2 hn hf he
  | cons x l1 =>
   rw [edF_new, List.cons_append] at he
   injection he with e1 e2
   subst e1
   have hgt : gtF (stp b) (p.app .nil) = none := by rw [app_get (not_ahead hg)]; rfl
   have hi : insF (b, q) (p.app .nil) = (p.app (.cons b q .nil)).app .nil := by rw [app_ins (app_less hg), Fr.app_nil]; rfl
   have hx := (right_cons_iff.1 (app_right hg)).1
   obtain ⟨h, g1, g2, g3⟩ := ih (putK n w ((p.app (.cons b q .nil)).app .nil)) a (p.app (.cons b q .nil)) l1 l2 (putK_get _ w n hn) ha (by rw [← hi]; exact right_ins hx hf hgt) (by rw [Fr.app_assoc]; exact hg) e2
   rw [Fr.app_assoc p (.cons b q .nil) s] at g3
   exact ⟨h, step_front hn rfl (by have h3 := one_new (b := b) (q := q) hn ha hgt; rwa [hi] at h3) g1, g2, g3⟩
 ·cases l1 with
  | nil => exact zero _ _ w n a p l2 hn hf he
  | cons x l1 =>
   rw [edF_lt h, List.cons_append] at he
   injection he with e1 e2
   subst e1
   obtain ⟨h, g1, g2, g3⟩ := ih (putK n w (p.app r)) a p l1 l2 (putK_get _ w n hn) ha (by rw [← del_mid hf]; exact right_del hf) hg e2
   exact ⟨h, step_front hn rfl (by have h3 := one_del hn (get_mid hf); rwa [del_mid hf] at h3) g1, g2, g3⟩
 ·cases l1 with
  | nil => exact zero _ _ w n a p l2 hn hf he
  | cons x l1 =>
   rw [edF_gt h1 h2, List.cons_append] at he
   injection he with e1 e2
   subst e1
   have hgt : gtF (stp b) (p.app (.cons c k r)) = none := by
    rw [app_get (not_ahead hg)]
    exact gt_none ⟨h2, allGt.mono h2 (right_cons_iff.1 (app_right hf)).2.1⟩
   have hi : insF (b, q) (p.app (.cons c k r)) = (p.app (.cons b q .nil)).app (.cons c k r) := by
    rw [app_ins (app_less hg), Fr.app_assoc]
    congr 1
    simp only [insF]
    rw [if_neg (by rw [h1]; simp)]
    rfl
   have hx := (right_cons_iff.1 (app_right hg)).1
   obtain ⟨h, g1, g2, g3⟩ := ih (putK n w ((p.app (.cons b q .nil)).app (.cons c k r))) a (p.app (.cons b q .nil)) l1 l2 (putK_get _ w n hn) ha (by rw [← hi]; exact right_ins hx hf hgt) (by rw [Fr.app_assoc]; exact hg) e2
   rw [Fr.app_assoc p (.cons b q .nil) s] at g3
   exact ⟨h, step_front hn rfl (by have h3 := one_new (b := b) (q := q) hn ha hgt; rwa [hi] at h3) g1, g2, g3⟩
 ·cases l1 with
  | nil => exact zero _ _ w n a p l2 hn hf he
  | cons x l1 =>
   rw [edF_eq h1 h2] at he
   have hx := (right_cons_iff.1 (app_right hf)).1
   have hy := (right_cons_iff.1 (app_right hg)).1
   have hgr := (right_cons_iff.1 (app_right hf)).2.1
   have hfr : rgtF (p.app (.cons b q r)) = true := by
    have h := right_rep (s := stp c) (y := (b, q)) hs.symm hy hf
    rw [app_rep (not_ahead hf)] at h
    simpa [repF] using h
   have hrr : rgtF (p.app r) = true := by rw [← del_mid hf]; exact right_del hf
   have hd : gtF (stp b) (p.app r) = none := by
    rw [app_get (not_ahead hg), ← hs]
    exact gt_none hgr
   have h3 := one_del hn (get_mid hf)
   rw [del_mid hf] at h3
   have h4 := one_new (b := b) (q := q) (putK_get (p.app r) w n hn) ha hd
   rw [putK_putK _ _ w n hn, app_ins (app_less hg), ins_gt (by rw [← hs]; exact hgr), ← hs] at h4
   have key : Goes n (edK (c, k) (b, q) (w ++ [stp c])) (putK n w (p.app (.cons b q r))) := by
    unfold edK
    split
    ·rename_i e
     injection e with e1 e2
     subst e1 e2
     rw [putK_same w n hn]
     exact Goes.nil n
    ·split
     ·rename_i hk
      have h := one_rep (b := b) (q := q) hn ha (get_mid hf) hs hk.1 hk.2
      rw [app_rep (not_ahead hf)] at h
      simp only [repF, if_true] at h
      exact Goes.cons h (Goes.nil _)
     ·split
      ·rename_i hk
       obtain rfl := same_inner hx hy hs hk.1 hk.2
       have h := ed_makes k q (w ++ [stp c]) n c .nil ((get_snoc w n hn).trans (get_mid hf)) hk.1 (right_kind0 hx hk.1).2.2 (right_kind0 hy hk.2).2.2
       rw [putK_snoc (get_mid hf) _ w n hn, app_rep (not_ahead hf)] at h
       simpa [repF, Fr.app] using h
      ·exact Goes.cons h3 (Goes.cons h4 (Goes.nil _))
   rcases List.append_eq_append_iff.1 he with ⟨l, e1, e2⟩ | ⟨l, e1, e2⟩
   ·obtain ⟨h, g1, g2, g3⟩ := ih (putK n w (p.app (.cons b q r))) a (p.app (.cons b q .nil)) l l2 (by rw [Fr.app_assoc]; exact putK_get _ w n hn) ha (by rw [Fr.app_assoc]; exact hfr) (by rw [Fr.app_assoc]; exact hg) e2
    rw [Fr.app_assoc p (.cons b q .nil) s] at g3
    rw [putK_putK _ _ w n hn] at g1
    exact ⟨h, by rw [e1]; exact Goes.app g1 key, g2, g3⟩
   ·unfold edK at e1 key
    split at e1
    ·cases e1
    ·rename_i hne
     rw [if_neg hne] at key
     split at e1
     ·rename_i hk
      rw [if_pos hk, e1] at key
      have hl : l = [] ∧ l1 = [] := by
       injection e1 with _ e
       have := List.append_eq_nil_iff.1 e.symm
       exact ⟨this.2, this.1⟩
      obtain ⟨rfl, rfl⟩ := hl
      exact ⟨p.app (.cons b q r), by simpa using key, hfr, by rw [ed_same, e2]; rfl⟩
     ·rename_i hk0
      rw [if_neg hk0] at key
      split at e1
      ·rename_i hk
       obtain rfl := same_inner hx hy hs hk.1 hk.2
       obtain ⟨h, g1, g2, g3⟩ := ihk n c .nil (x :: l1) l ((get_snoc w n hn).trans (get_mid hf)) hk.1 (right_kind0 hx hk.1).2.2 (right_kind0 hy hk.2).2.2 e1
       rw [putK_snoc (get_mid hf) _ w n hn, app_rep (not_ahead hf)] at g1
       have hch : rgtX (c, h) = true := right_make ⟨hk.1, (right_kind0 hx hk.1).1, (right_kind0 hx hk.1).2.1⟩ g2
       have hfc : rgtF (p.app (.cons c h r)) = true := by
        have h9 := right_rep (s := stp c) (y := (c, h)) rfl hch hf
        rw [app_rep (not_ahead hf)] at h9
        simpa [repF] using h9
       refine ⟨p.app (.cons c h r), by simpa [repF] using g1, hfc, ?_⟩
       rw [ed_prefix]
       have hl : lessX c c = false := by unfold lessX; exact lessS_irrefl _
       rw [edF_eq hl hl, e2]
       congr 1
       unfold edK
       by_cases hq : h = q
       ·subst hq
        rw [if_pos rfl, ← g3]
        exact (ed_self _ _).symm
       ·rw [if_neg (fun e => hq (congrArg Prod.snd e)), if_neg (fun e => e.1 hk.1), if_pos ⟨hk.1, hk.1⟩]
        exact g3
      ·rename_i hk1
       cases l1 with
       | nil =>
        injection e1 with e3 e4
        subst e3
        refine ⟨p.app r, Goes.cons h3 (Goes.nil _), hrr, ?_⟩
        rw [ed_prefix, ed_less w (by rw [← hs]; exact hgr), e2]
        rw [show l = [newE (w ++ [stp c]) (b, q)] from e4.symm, hs]
        rfl
       | cons x2 l1 =>
        injection e1 with e3 e4
        injection e4 with e5 e6
        have hl := List.append_eq_nil_iff.1 e6.symm
        obtain ⟨rfl, rfl⟩ := hl
        subst e3 e5
        exact ⟨p.app (.cons b q r), Goes.cons h3 (Goes.cons h4 (Goes.nil _)), hfr, by rw [ed_same, e2]; rfl⟩
section
variable {α : Type} {D : RdOf α} {e : TypeId} {K p : Nat} {w w' : World} {base : Nat} {S S' N N' : Nat → Prop} {v : Value} {f : Fr α}
theorem FrV.lit {g c : Nat} {xs : List Value} (hS : S g) (hb : Blk w g e xs.toArray) (hr : rowG D K p w S N xs f) (hc : f.len ≤ c) : FrV D K p w S N (.slice (some ⟨g, 0, none⟩) f.len c) f :=
 ⟨_, c, rfl, hc, fun _ => ⟨g, 0, rfl, hS, hr.at (fun j u hj => by
  rw [Nat.zero_add, hb.cell]
  simpa using hj)⟩⟩
theorem OwnK.lit {k n g : Nat} {xs : List Value} (hb : Blk w g e xs.toArray) (hg : base ≤ g) (hl : xs.length = n * k) (hn : n ≤ maxLen) : OwnK e k w base (.slice (some ⟨g, 0, none⟩) n n) n xs :=
 ⟨hl, .inr ⟨g, n, xs.toArray, rfl, hg, hb, Nat.le_refl _, hn, by simpa using hl, by simp [← hl]⟩⟩
theorem OwnG.lit {g : Nat} {xs : List Value} (hb : Blk w g e xs.toArray) (hg : base ≤ g) (hn : f.len ≤ maxLen) (hr : rowG D K p w S N xs f) (hS : ∀ k, S k → k < w.heap.size ∧ k ≠ g) (hN : ∀ k, N k → k < w.heap.size ∧ k ≠ g) : OwnG D e K p w base S N (.slice (some ⟨g, 0, none⟩) f.len f.len) f :=
 ⟨fun k hk => ⟨(hS k hk).1, by intro h; injection h with h; exact (hS k hk).2 h⟩, fun k hk => ⟨(hN k hk).1, by intro h; injection h with h; exact (hN k hk).2 h⟩, xs, OwnK.lit hb hg hr.len hn, hr⟩
theorem OwnG.grown (hD : StayD D) {row : Option Nat} (h : OwnG D e K p w base S N v f) (hg : w.grownBy w' row) (hne : v.ownBlock = none ∨ v.ownBlock ≠ row) (hS : ∀ g, S g → some g ≠ row) (hN : ∀ g, N g → some g ≠ row) : OwnG D e K p w' base S N v f := by
 obtain ⟨h1, h2, xs, h3, h4⟩ := h
 exact ⟨fun g hg' => ⟨Nat.lt_of_lt_of_le (h1 g hg').1 hg.size, (h1 g hg').2⟩, fun g hg' => ⟨Nat.lt_of_lt_of_le (h2 g hg').1 hg.size, (h2 g hg').2⟩, xs, h3.grown hg hne,
  h4.kept hD (fun g hg' => hg.block g (h1 g hg').1 (hS g hg')) (fun _ h => h) (fun g hg' => hg.block g (h2 g hg').1 (hN g hg')) (fun _ h => h)⟩
def AppG (D : RdOf α) (e : TypeId) (K p : Nat) (base : Nat) (S N : Nat → Prop) (w : World) (v : Value) (f : Fr α) (v' : Value) (w' : World) : Prop :=
 OwnG D e K p w' base S N v' f ∧ w.grownBy w' v.ownBlock ∧ (v'.ownBlock = v.ownBlock ∨ v'.ownBlock = some w.heap.size) ∧ ∃ g c, v' = .slice (some ⟨g, 0, none⟩) f.len c
theorem AppG.below {v' : Value} {g : Fr α} (h : AppG D e K p base S N w v g v' w') (hown : OwnG D e K p w base S N v f) (hb : base ≤ w.heap.size) : Below base w w' :=
 (Below.refl _ _).grown h.2.1 hb fun b e => (hown.lt b e).1
end
abbrev ndC (a : NdD) (kv : Value) : List Value := [.string (txt a.name), .string (txt a.key), .int .i64 a.kind, .int .u64 (a.num : Int), .string (txt a.text), kv]
def NdT : RdOf NdD := fun _ _ cs a => ∃ kv, cs = ndC a kv ∧ kv.oneCell' = true
def NdA : RdOf NdD := fun w N cs a => NdT w N cs a ∧ ∀ b o n c, cs[5]? = some (.slice (some ⟨b, o, none⟩) n c) → o % 6 = 0
def noB : Nat → Prop := fun _ => False
theorem stay_nd : StayD NdT := fun _ _ _ _ _ _ _ _ h => h
theorem one_nd : OneD NdT := by
 intro w N cs a ⟨kv, h1, h4⟩ u hu
 subst h1
 simp only [List.mem_cons, List.not_mem_nil, or_false] at hu
 rcases hu with rfl | rfl | rfl | rfl | rfl | rfl <;> first | rfl | exact h4
theorem one_na : OneD NdA := fun w N cs a h u hu => one_nd w N cs a h.1 u hu
def LieB (b : Nat) (w : World) (cs : List Value) (x : Nd) : Prop := FrN NdT 6 5 w (fun g => g < b) noB cs x.1 x.2
def RowT (b : Nat) (w : World) (v : Value) (f : NdF) : Prop := FrV NdT 6 5 w (fun g => g < b) noB v f
abbrev LieN (w : World) (cs : List Value) (x : Nd) : Prop := LieB w.heap.size w cs x
theorem LieB.shape {b : Nat} {w : World} {cs : List Value} {x : Nd} (h : LieB b w cs x) : ∃ A c, cs = ndC x.1 (.slice A x.2.len c) ∧ RowT b w (.slice A x.2.len c) x.2 := by
 obtain ⟨_, ⟨kv, rfl, _⟩, v, h5, h6⟩ := h
 obtain ⟨A, c, rfl⟩ := h6.shape
 simp at h5
 subst h5
 exact ⟨A, c, rfl, h6⟩
theorem LieB.make {b : Nat} {w : World} {a : NdD} {f : NdF} {v : Value} (h : RowT b w v f) : LieB b w (ndC a v) (a, f) := by
 refine ⟨rfl, ⟨v, rfl, ?_⟩, v, rfl, h⟩
 obtain ⟨A, c, rfl⟩ := h.shape
 rfl
theorem LieB.keep {b b' : Nat} {w w' : World} {cs : List Value} {x : Nd} (h : LieB b w cs x) (hk : ∀ g, g < b → w'.heap[g]? = w.heap[g]?) (hb : b ≤ b') : LieB b' w' cs x :=
 FrN.kept stay_nd h hk (fun g hg => Nat.lt_of_lt_of_le hg hb) (fun _ h => h.elim) (fun _ h => h)
theorem RowT.keep {b b' : Nat} {w w' : World} {v : Value} {f : NdF} (h : RowT b w v f) (hk : ∀ g, g < b → w'.heap[g]? = w.heap[g]?) (hb : b ≤ b') : RowT b' w' v f :=
 FrV.kept stay_nd h hk (fun g hg => Nat.lt_of_lt_of_le hg hb) (fun _ h => h.elim) (fun _ h => h)
theorem LieB.under {b b' B : Nat} {w w' : World} {cs : List Value} {x : Nd} (h : LieB b w cs x) (hB : Below B w w') (hb : b ≤ B) (hb' : b ≤ b') : LieB b' w' cs x := h.keep (fun g hg => hB.block g (Nat.lt_of_lt_of_le hg hb)) hb'
theorem RowT.under {b b' B : Nat} {w w' : World} {v : Value} {f : NdF} (h : RowT b w v f) (hB : Below B w w') (hb : b ≤ B) (hb' : b ≤ b') : RowT b' w' v f := h.keep (fun g hg => hB.block g (Nat.lt_of_lt_of_le hg hb)) hb'
theorem LieB.below {w w' : World} {cs : List Value} {x : Nd} (h : LieN w cs x) (hb : Below w.heap.size w w') : LieN w' cs x := h.under hb (Nat.le_refl _) hb.size
theorem RowT.below {w w' : World} {v : Value} {f : NdF} (h : RowT w.heap.size w v f) (hb : Below w.heap.size w w') : RowT w'.heap.size w' v f := h.under hb (Nat.le_refl _) hb.size
theorem LieB.zero (b : Nat) (w : World) : LieB b w (ndC zeroT (.slice none 0 0)) noN := LieB.make (FrV.empty _ _ _)
theorem RowT.at {b : Nat} {w : World} {A : Option Addr} {n c : Nat} {f : NdF} (h : RowT b w (.slice A n c) f) {i : Nat} {y : Nd} (hy : f.get? i = some y) :
  ∃ g o A' c', A = some ⟨g, o, none⟩ ∧ n = f.len ∧ n ≤ c ∧ g < b ∧ RowT b w (.slice A' y.2.len c') y.2 ∧ ∀ j u, (ndC y.1 (.slice A' y.2.len c'))[j]? = some u → w.cell? ⟨g, o + i * 6 + j, none⟩ = some u := by
 obtain ⟨a, k⟩ := y
 obtain ⟨g, o, c1, cs, e, h1, h2, h3, h4⟩ := FrV.at h hy
 injection e with e1 e2 e3
 subst e1 e2 e3
 obtain ⟨A', c', rfl, h6⟩ := LieB.shape (x := (a, k)) h3
 exact ⟨g, o, A', c', rfl, rfl, h1, h2, h6, h4⟩
theorem RowT.len {b : Nat} {w : World} {A : Option Addr} {n c : Nat} {f : NdF} (h : RowT b w (.slice A n c) f) : n = f.len ∧ n ≤ c := by
 obtain ⟨A', c', e, h1, _⟩ := h
 injection e with e1 e2 e3
 subst e2 e3
 exact ⟨rfl, h1⟩
def WayV (b : Nat) (w : World) (v : Value) (l : List Stp) : Prop := ∃ A c, v = .slice A l.length c ∧ l.length ≤ c ∧ (0 < l.length → ∃ g o, A = some ⟨g, o, none⟩ ∧ g < b ∧
 ∀ j s, l[j]? = some s → w.cell? ⟨g, o + j * 2, none⟩ = some (.string (txt s.1)) ∧ w.cell? ⟨g, o + j * 2 + 1, none⟩ = some (.string (txt s.2)))
theorem WayV.keep {b b' : Nat} {w w' : World} {v : Value} {l : List Stp} (h : WayV b w v l) (hk : ∀ g, g < b → w'.heap[g]? = w.heap[g]?) (hb : b ≤ b') : WayV b' w' v l := by
 obtain ⟨A, c, rfl, h1, h2⟩ := h
 refine ⟨A, c, rfl, h1, fun h0 => ?_⟩
 obtain ⟨g, o, rfl, h3, h4⟩ := h2 h0
 refine ⟨g, o, rfl, Nat.lt_of_lt_of_le h3 hb, fun j s hs => ?_⟩
 obtain ⟨h5, h6⟩ := h4 j s hs
 exact ⟨(World.cell?_of_block (w := w) (hk g h3)).trans h5, (World.cell?_of_block (w := w) (hk g h3)).trans h6⟩
theorem WayV.under {b b' B : Nat} {w w' : World} {v : Value} {l : List Stp} (h : WayV b w v l) (hB : Below B w w') (hb : b ≤ B) (hb' : b ≤ b') : WayV b' w' v l := h.keep (fun g hg => hB.block g (Nat.lt_of_lt_of_le hg hb)) hb'
theorem WayV.below {w w' : World} {v : Value} {l : List Stp} (h : WayV w.heap.size w v l) (hb : Below w.heap.size w w') : WayV w'.heap.size w' v l := h.under hb (Nat.le_refl _) hb.size
theorem WayV.shape {b : Nat} {w : World} {v : Value} {l : List Stp} (h : WayV b w v l) : ∃ A c, v = .slice A l.length c := by
 obtain ⟨A, c, h, _⟩ := h; exact ⟨A, c, h⟩
theorem WayV.at {b : Nat} {w : World} {A : Option Addr} {n c : Nat} {l : List Stp} (h : WayV b w (.slice A n c) l) {j : Nat} {s : Stp} (hs : l[j]? = some s) :
  ∃ g o, A = some ⟨g, o, none⟩ ∧ n = l.length ∧ n ≤ c ∧ g < b ∧ w.cell? ⟨g, o + j * 2, none⟩ = some (.string (txt s.1)) ∧ w.cell? ⟨g, o + j * 2 + 1, none⟩ = some (.string (txt s.2)) := by
 have hlt := (List.getElem?_eq_some_iff.1 hs).1
 obtain ⟨A', c', e, h1, h2⟩ := h
 injection e with e1 e2 e3
 subst e1 e2 e3
 obtain ⟨g, o, rfl, h3, h4⟩ := h2 (by omega)
 obtain ⟨h5, h6⟩ := h4 j s hs
 exact ⟨g, o, rfl, rfl, h1, h3, h5, h6⟩
theorem WayV.nil (b : Nat) (w : World) (A : Option Addr) (c : Nat) : WayV b w (.slice A 0 c) [] := ⟨A, c, rfl, Nat.zero_le _, fun h => absurd h (by simp)⟩
theorem WayV.front {b : Nat} {w : World} {A : Option Addr} {n c : Nat} {l : List Stp} (m : Nat) (hm : m ≤ l.length) (h : WayV b w (.slice A n c) l) : WayV b w (.slice A m c) (l.take m) := by
 obtain ⟨A', c', e, h1, h2⟩ := h
 injection e with e1 e2 e3
 subst e1 e2 e3
 have hl : (l.take m).length = m := by rw [List.length_take]; omega
 refine ⟨A, c, by rw [hl], by omega, fun h0 => ?_⟩
 obtain ⟨g, o, rfl, h3, h4⟩ := h2 (by omega)
 refine ⟨g, o, rfl, h3, fun j s hs => h4 j s ?_⟩
 rw [List.getElem?_take] at hs
 split at hs
 ·exact hs
 ·cases hs
def Fresh9 (base : Nat) (w : World) (g : Nat) : Prop := base ≤ g ∧ ∃ cs t, w.heap[g]? = some (.cells cs t (0, 0))
theorem Fresh9.lt {base : Nat} {w : World} {g : Nat} (h : Fresh9 base w g) : g < w.heap.size := by
 obtain ⟨_, cs, t, h⟩ := h
 exact (Array.getElem?_eq_some_iff.1 h).1
def NewT (base : Nat) (w : World) (cs : List Value) (x : Nd) : Prop := ∃ S, (∀ g, S g → Fresh9 base w g) ∧ FrN NdA 6 5 w S noB cs x.1 x.2
theorem FrAt.plain {w : World} {S N : Nat → Prop} : ∀ {f : NdF} {b o : Nat}, FrAt NdA 6 5 w S N f b o → FrAt NdT 6 5 w S N f b o := by
 intro f
 induction f with
 | nil => intro b o _; trivial
 | cons a k r ihk ihr =>
  intro b o ⟨⟨cs, h1, h2, h3, A, c, h4, h5, h6⟩, h7⟩
  refine ⟨⟨cs, h1, h2, h3.1, A, c, h4, h5, fun h0 => ?_⟩, ihr h7⟩
  obtain ⟨b', o', h8, h9, h10⟩ := h6 h0
  exact ⟨b', o', h8, h9, ihk h10⟩
theorem FrV.plain {w : World} {S N : Nat → Prop} {v : Value} {f : NdF} (h : FrV NdA 6 5 w S N v f) : FrV NdT 6 5 w S N v f := by
 obtain ⟨A, c, rfl, h1, h2⟩ := h
 refine ⟨A, c, rfl, h1, fun h0 => ?_⟩
 obtain ⟨b, o, h3, h4, h5⟩ := h2 h0
 exact ⟨b, o, h3, h4, h5.plain⟩
theorem NewT.lies {base : Nat} {w : World} {cs : List Value} {x : Nd} (h : NewT base w cs x) : LieN w cs x := by
 obtain ⟨S, h1, h2, h3, v, h4, h5⟩ := h
 exact FrN.mono stay_nd ⟨h2, h3.1, v, h4, h5.plain⟩ (fun g hg => (h1 g hg).lt) (fun _ h => h)
def TreP (x : Nd) (u : Value) (w : World) (r : Ending) (w' : World) : Prop := ∃ cs, r = .returned (.tuple #[.agg cs.toArray, u]) ∧ NewT w.heap.size w' cs x ∧ Below w.heap.size w w'
def TreP1 (x : Nd) (w : World) (r : Ending) (w' : World) : Prop := ∃ cs, r = .returned (.agg cs.toArray) ∧ NewT w.heap.size w' cs x ∧ Below w.heap.size w w'
def RTreP (x : Nd) (u : Value) (w : World) (r : Ending) (w' : World) : Prop := ∃ cs, r = .returned (.tuple #[.agg cs.toArray, u]) ∧ LieN w' cs x ∧ Below w.heap.size w w'
def RTreP1 (x : Nd) (w : World) (r : Ending) (w' : World) : Prop := ∃ cs, r = .returned (.agg cs.toArray) ∧ LieN w' cs x ∧ Below w.heap.size w w'
def LieP (b B : Nat) (w : World) (cs : List Value) (x : Nd) : Prop := FrN NdT 6 5 w (fun g => g < b ∨ (B ≤ g ∧ g < w.heap.size)) noB cs x.1 x.2
def RowP (b B : Nat) (w : World) (v : Value) (f : NdF) : Prop := FrV NdT 6 5 w (fun g => g < b ∨ (B ≤ g ∧ g < w.heap.size)) noB v f
theorem LieP.shape {b B : Nat} {w : World} {cs : List Value} {x : Nd} (h : LieP b B w cs x) : ∃ A c, cs = ndC x.1 (.slice A x.2.len c) ∧ RowP b B w (.slice A x.2.len c) x.2 := by
 obtain ⟨_, ⟨kv, rfl, _⟩, v, h5, h6⟩ := h
 obtain ⟨A, c, rfl⟩ := h6.shape
 simp at h5
 subst h5
 exact ⟨A, c, rfl, h6⟩
theorem LieP.make {b B : Nat} {w : World} {a : NdD} {f : NdF} {v : Value} (h : RowP b B w v f) : LieP b B w (ndC a v) (a, f) := by
 refine ⟨rfl, ⟨v, rfl, ?_⟩, v, rfl, h⟩
 obtain ⟨A, c, rfl⟩ := h.shape
 rfl
theorem LieP.keep {b B b' B' : Nat} {w w' : World} {cs : List Value} {x : Nd} (h : LieP b B w cs x) (hk : ∀ g, g < b ∨ (B ≤ g ∧ g < w.heap.size) → w'.heap[g]? = w.heap[g]?) (hS : ∀ g, g < b ∨ (B ≤ g ∧ g < w.heap.size) → g < b' ∨ (B' ≤ g ∧ g < w'.heap.size)) : LieP b' B' w' cs x :=
 FrN.kept stay_nd h hk hS (fun _ h => h.elim) (fun _ h => h)
theorem LieP.lies {b B : Nat} {w : World} {cs : List Value} {x : Nd} (h : LieP b B w cs x) (hb : b ≤ w.heap.size) : LieN w cs x :=
 FrN.mono stay_nd h (fun g hg => by rcases hg with h | h <;> omega) (fun _ h => h)
theorem LieB.p {b : Nat} {w : World} {cs : List Value} {x : Nd} (h : LieB b w cs x) (B : Nat) : LieP b B w cs x := FrN.mono stay_nd h (fun g hg => .inl hg) (fun _ h => h)
theorem RowT.p {b : Nat} {w : World} {v : Value} {f : NdF} (h : RowT b w v f) (B : Nat) : RowP b B w v f := FrV.mono stay_nd h (fun g hg => .inl hg) (fun _ h => h)
def PTreP (b : Nat) (x : Nd) (u : Value) (w : World) (r : Ending) (w' : World) : Prop := ∃ cs, r = .returned (.tuple #[.agg cs.toArray, u]) ∧ LieP b w.heap.size w' cs x ∧ Below w.heap.size w w'
def PTreP1 (b : Nat) (x : Nd) (w : World) (r : Ending) (w' : World) : Prop := ∃ cs, r = .returned (.agg cs.toArray) ∧ LieP b w.heap.size w' cs x ∧ Below w.heap.size w w'
theorem PTreP.r {x : Nd} {u : Value} {w : World} {r : Ending} {w' : World} (h : PTreP w.heap.size x u w r w') : RTreP x u w r w' := by
 obtain ⟨cs, h1, h2, h3⟩ := h; exact ⟨cs, h1, h2.lies h3.size, h3⟩
theorem PTreP1.r {x : Nd} {w : World} {r : Ending} {w' : World} (h : PTreP1 w.heap.size x w r w') : RTreP1 x w r w' := by
 obtain ⟨cs, h1, h2, h3⟩ := h; exact ⟨cs, h1, h2.lies h3.size, h3⟩
theorem PTreP.flat {b : Nat} {a : NdD} {f : NdF} {u : Value} {w : World} {r : Ending} {w' : World} (h : PTreP b (a, f) u w r w') : ∃ A c, r = .returned (.tuple #[.agg (ndC a (.slice A f.len c)).toArray, u]) ∧ LieP b w.heap.size w' (ndC a (.slice A f.len c)) (a, f) ∧ Below w.heap.size w w' := by
 obtain ⟨cs, rfl, h2, h3⟩ := h
 obtain ⟨A, c, rfl, _⟩ := h2.shape
 exact ⟨A, c, rfl, h2, h3⟩
theorem PTreP1.flat {b : Nat} {a : NdD} {f : NdF} {w : World} {r : Ending} {w' : World} (h : PTreP1 b (a, f) w r w') : ∃ A c, r = .returned (.agg (ndC a (.slice A f.len c)).toArray) ∧ LieP b w.heap.size w' (ndC a (.slice A f.len c)) (a, f) ∧ Below w.heap.size w w' := by
 obtain ⟨cs, rfl, h2, h3⟩ := h
 obtain ⟨A, c, rfl, _⟩ := h2.shape
 exact ⟨A, c, rfl, h2, h3⟩
def Ans9 (v : Value) (w : World) (r : Ending) (w' : World) : Prop := r = .returned v ∧ Below w.heap.size w w'
theorem TreP.r {x : Nd} {u : Value} {w : World} {r : Ending} {w' : World} (h : TreP x u w r w') : RTreP x u w r w' := by
 obtain ⟨cs, h1, h2, h3⟩ := h; exact ⟨cs, h1, h2.lies, h3⟩
theorem TreP1.r {x : Nd} {w : World} {r : Ending} {w' : World} (h : TreP1 x w r w') : RTreP1 x w r w' := by
 obtain ⟨cs, h1, h2, h3⟩ := h; exact ⟨cs, h1, h2.lies, h3⟩
def Few9 (x : Nd) : Prop := x.2.size ≤ 1000000
def SameTC (W0 : World) : Prop := ∀ (x y : Nd) (cs ds : List Value) (w : World), LieN w cs x → LieN w ds y → Few9 x → Few9 y → Below W0.heap.size W0 w →
 Calls Try.prog 49 #[.agg cs.toArray, .agg ds.toArray] w (Ans9 (.bool (decide (x = y))) w)
def GetTC (W0 : World) : Prop := ∀ (x : Nd) (l : List Stp) (cs : List Value) (v : Value) (w : World), LieN w cs x → WayV w.heap.size w v l → Few9 x → l.length ≤ 1000000 → Below W0.heap.size W0 w →
 Calls Try.prog 25 #[.agg cs.toArray, v] w (TreP (GetX x l).1 (.bool (GetX x l).2) w)
def SetTC (W0 : World) : Prop := ∀ (x y : Nd) (l : List Stp) (cs ds : List Value) (v : Value) (w : World), LieN w cs x → LieN w ds y → WayV w.heap.size w v l → Few9 x → Few9 y → rgtX x = true → l.length ≤ 1000000 → Below W0.heap.size W0 w →
 Calls Try.prog 39 #[.agg cs.toArray, v, .agg ds.toArray] w (TreP (SetX x l y).1 (.int .i64 ((SetX x l y).2 : Int)) w)
def CutTC (W0 : World) : Prop := ∀ (x : Nd) (l : List Stp) (cs : List Value) (v : Value) (w : World), LieN w cs x → WayV w.heap.size w v l → Few9 x → rgtX x = true → l.length ≤ 1000000 → Below W0.heap.size W0 w →
 Calls Try.prog 41 #[.agg cs.toArray, v] w (TreP (CutX x l).1 (.int .i64 ((CutX x l).2 : Int)) w)
abbrev cN (a : NdD) (v : Value) : Array Value := #[.string (txt a.name), .string (txt a.key), .int .i64 a.kind, .int .u64 (a.num : Int), .string (txt a.text), v]
theorem held_more {P : Program} {md : Region.Mode} {ops : Array Oper} {Q : Exit → Act → World → Prop} {S S' : World → Prop} (h : ∀ w, S' w → S w) :
  ∀ (fuel : Nat) (listed : Array Bool) (a : Act) (w : World), wpAnyH P md ops Q S' fuel listed a w → wpAnyH P md ops Q S fuel listed a w
 | 0, _, _, _, hw => hw
 | fuel + 1, _, _, _, hw => ⟨hw.1, fun i hi => wpOp_mono (fun _ _ hq => ⟨h _ hq.1, held_more h fuel _ _ _ hq.2⟩) (hw.2 i hi)⟩
theorem tkH {P : Program} {ops : Array Oper} {Q : Exit → Act → World → Prop} {md : Region.Mode} {S : World → Prop} (i : Nat) {oi : Oper} {v : Value} {fuel : Nat} {listed : Array Bool} {a a' : Act} {w : World} (hS : S w) (h : wpAnyH P md ops Q S fuel (listed.setIfInBounds i true) a' w)
 (hi : ops[i]? = some oi := by (simp only [layG]; rfl)) (h1 : Region.noSelect ops = true := by kernel_rfl) (h2 : Region.free md ops listed i = true := by kernel_rfl) (h3 : (Region.ready md ops listed).contains i = true := by kernel_rfl)
 (hw : Region.wanted oi (yielded ops a.tmps) = true := by rfl) (hy : ∀ w, S w → (execOp a.eval oi).run P w = .ok (.value v) w := by (intro w hSw; (go_simp <;> with_reducible rfl)))
 (ha : a.put oi.dst v = a' := by (first | (simp only [Act.put, layS]; rfl) | rfl)) (hQ : ∀ c a w, Q (.panic c) (a.put oi.dst v) w → Q (.panic c) a w := by exact fun _ _ _ h => h) : wpAnyH P md ops Q S (fuel + 1) listed a w := by
 subst ha; exact wpAnyH_take hi h1 h2 h3 hQ (Or.inl ⟨hw, hy⟩) hS h
theorem tkHo {P : Program} {ops : Array Oper} {Q : Exit → Act → World → Prop} {md : Region.Mode} {S : World → Prop} (i : Nat) {oi : Oper} {fuel : Nat} {listed : Array Bool} {a a' : Act} {w : World} (hS : S w) (h : wpAnyH P md ops Q S fuel (listed.setIfInBounds i true) a' w)
 (hi : ops[i]? = some oi := by (simp only [layG]; rfl)) (h1 : Region.noSelect ops = true := by kernel_rfl) (h2 : Region.free md ops listed i = true := by kernel_rfl) (h3 : (Region.ready md ops listed).contains i = true := by kernel_rfl)
 (hw : Region.wanted oi (yielded ops a.tmps) = false := by rfl) (ha : a.put oi.dst undef = a' := by (first | (simp only [Act.put, layS]; rfl) | rfl)) (hQ : ∀ c a w, Q (.panic c) (a.put oi.dst undef) w → Q (.panic c) a w := by exact fun _ _ _ h => h) : wpAnyH P md ops Q S (fuel + 1) listed a w := by
 subst ha; exact wpAnyH_take hi h1 h2 h3 hQ (Or.inr ⟨hw, rfl⟩) hS h
theorem rdC {P : Program} {ops : Array Oper} {Q : Exit → Act → World → Prop} {md : Region.Mode} {S : World → Prop} {fuel : Nat} {listed : Array Bool} {a : Act} {w : World} {i : Nat} {o : Oper} {rs : List Nat} (h : ∀ K' : Act → World → Prop, Shut (∀ a w, S w → (S w → wpAnyH P md ops Q S fuel (listed.setIfInBounds i true) a w) → K' a w) → Oper.wp P o a w K' Q) (hs : AllReadyH P md ops Q S fuel listed a w rs)
 (ho : ops[i]? = some o := by (simp only [layG]; rfl)) (hw : Region.wanted o (yielded ops a.tmps) = true := by rfl) : AllReadyH P md ops Q S fuel listed a w (i :: rs) := .cons ho (fun K hK => by rw [if_pos hw]; exact h K hK) hs
theorem rdy {P : Program} {ops : Array Oper} {Q : Exit → Act → World → Prop} {md : Region.Mode} {S : World → Prop} {fuel : Nat} {listed : Array Bool} {a : Act} {w : World} (rs : List Nat) (h : AllReadyH P md ops Q S fuel listed a w rs) (hr : Region.ready md ops listed = rs := by kernel_rfl) (hne : rs ≠ [] := by simp) : wpAnyH P md ops Q S (fuel + 1) listed a w := wpAnyH_ready hr hne h
theorem rdy1 {P : Program} {ops : Array Oper} {Q : Exit → Act → World → Prop} {md : Region.Mode} {S : World → Prop} {fuel : Nat} {listed : Array Bool} {a : Act} {w : World} (i : Nat) {o : Oper} (h : ∀ K' : Act → World → Prop, Shut (∀ a w, S w → (S w → wpAnyH P md ops Q S fuel (listed.setIfInBounds i true) a w) → K' a w) → Oper.wp P o a w K' Q)
 (hr : Region.ready md ops listed = [i] := by kernel_rfl) (ho : ops[i]? = some o := by (simp only [layG]; rfl)) (hw : Region.wanted o (yielded ops a.tmps) = true := by rfl) : wpAnyH P md ops Q S (fuel + 1) listed a w := wpAnyH_ready hr (by simp) (rdC h .nil ho hw)
theorem Try.cellsSt : (Try.prog.info? 47).map (fun i => (i.zero, i.size, i.bytes)) = some (some (.agg #[.string ⟨#[]⟩, .string ⟨#[]⟩]), 2, 32) := by kernel_rfl
theorem szeroN : (Value.agg #[.string ⟨#[]⟩, .string ⟨#[]⟩]).cells.size = 2 := rfl
def stC : List Stp → List Value
 | [] => []
 | s :: l => .string (txt s.1) :: .string (txt s.2) :: stC l
theorem stC_len : ∀ l : List Stp, (stC l).length = l.length * 2
 | [] => rfl
 | s :: l => by simp only [stC, List.length_cons, stC_len l]; omega
theorem stC_one : ∀ (l : List Stp) (u : Value), u ∈ stC l → u.oneCell' = true
 | [], u, h => by cases h
 | s :: l, u, h => by
  simp only [stC, List.mem_cons] at h
  rcases h with rfl | rfl | h
  ·rfl
  ·rfl
  ·exact stC_one l u h
theorem stC_at : ∀ (l : List Stp) (j : Nat) (s : Stp), l[j]? = some s → (stC l)[j * 2]? = some (.string (txt s.1)) ∧ (stC l)[j * 2 + 1]? = some (.string (txt s.2))
 | [], j, s, h => by simp at h
 | t :: l, 0, s, h => by simp at h; subst h; exact ⟨rfl, rfl⟩
 | t :: l, j + 1, s, h => by
  have h1 := stC_at l j s (by simpa using h)
  rw [show (j + 1) * 2 = j * 2 + 1 + 1 by omega]
  simpa [stC] using h1
def OwnS (base : Nat) (w : World) (v : Value) (l : List Stp) : Prop := OwnK 47 2 w base v l.length (stC l)
section
variable {w w' : World} {base : Nat} {v : Value} {l : List Stp}
theorem OwnS.nil (w : World) (base : Nat) : OwnS base w (.slice none 0 0) [] := OwnK.nil _ _ _ _
theorem OwnS.below (h : OwnS base w v l) (hb : Below w.heap.size w w') : OwnS base w' v l := OwnK.below h hb
theorem OwnS.mono {b : Nat} (h : OwnS base w v l) (hb : b ≤ base) : OwnS b w v l := OwnK.mono h hb
theorem OwnS.lt (h : OwnS base w v l) : ∀ b, v.ownBlock = some b → base ≤ b ∧ b < w.heap.size := OwnK.lt h
theorem OwnS.shape (h : OwnS base w v l) : ∃ A c, v = .slice A l.length c := OwnK.shape h
theorem OwnS.way (h : OwnS base w v l) : WayV w.heap.size w v l := by
 obtain ⟨d, ⟨h0, A, c, rfl, h1, h2⟩, _⟩ := OwnK.row h
 refine ⟨A, c, rfl, h1, fun hp => ?_⟩
 obtain ⟨hlt, off, rfl, hc⟩ := h2 hp
 refine ⟨d, off, rfl, hlt, fun j s hs => ?_⟩
 obtain ⟨g1, g2⟩ := stC_at l j s hs
 exact ⟨hc _ _ g1, by have := hc _ _ g2; rwa [← Nat.add_assoc] at this⟩
end
theorem OwnS.one {w : World} (s : Stp) {base : Nat} (hb : base ≤ w.heap.size) : OwnS base (w.alloc (.cells #[.string (txt s.1), .string (txt s.2)] 47)) (.slice (some ⟨w.heap.size, 0, none⟩) 1 1) [s] :=
 ⟨rfl, .inr ⟨w.heap.size, 1, #[.string (txt s.1), .string (txt s.2)], rfl, hb, Blk.new w _ _, Nat.le_refl _, by unfold maxLen; omega, rfl, rfl⟩⟩
theorem OwnS.two {w : World} (s t : Stp) {base : Nat} (hb : base ≤ w.heap.size) : OwnS base (w.alloc (.cells #[.string (txt s.1), .string (txt s.2), .string (txt t.1), .string (txt t.2)] 47)) (.slice (some ⟨w.heap.size, 0, none⟩) 2 2) [s, t] :=
 ⟨rfl, .inr ⟨w.heap.size, 2, #[.string (txt s.1), .string (txt s.2), .string (txt t.1), .string (txt t.2)], rfl, hb, Blk.new w _ _, Nat.le_refl _, by unfold maxLen; omega, rfl, rfl⟩⟩
theorem app_none9 (w : World) (A : Option Addr) (c : Nat) : (Builtin.append_ #[35, 35] 35 #[.slice none 0 0, .slice A 0 c]).run Try.prog w = .ok (.slice none 0 0) w := by
 obtain ⟨i, hi, hz0, hz1, hz2⟩ := info_parts Try.cellsSt
 cases A with
 | none => simp [Builtin.append_, run_underlying Try.underlying35, sizeOf, typeInfo, hi, storeCells, Builtin.lenOf, Builtin.firstCells]
 | some ad =>
  have h := run_firstCells_some (P := Try.prog) w i.size 0 ad 0 c [] (by simp) (by simp)
  simp [Builtin.append_, run_underlying Try.underlying35, sizeOf, typeInfo, hi, storeCells, Builtin.lenOf, h]
theorem WayV.cells {b : Nat} {w : World} {A : Option Addr} {c : Nat} {l : List Stp} (h : WayV b w (.slice A l.length c) l) (h0 : 0 < l.length) : ∃ ad : Addr, A = some ad ∧ ∀ j u, (stC l)[j]? = some u → w.cell? (ad.add j) = some u := by
 obtain ⟨A', c', e, h1, h2⟩ := h
 injection e with e1 e2 e3
 subst e1 e3
 obtain ⟨g, o, rfl, hg, hc⟩ := h2 h0
 refine ⟨_, rfl, fun j u hu => ?_⟩
 have e1 : (⟨g, o, none⟩ : Addr).add j = ⟨g, o + j, none⟩ := by unfold Addr.add; split <;> simp_all
 rw [e1]
 have hj : j < (stC l).length := (List.getElem?_eq_some_iff.1 hu).1
 rw [stC_len] at hj
 obtain ⟨s, hs⟩ : ∃ s, l[j / 2]? = some s := ⟨_, List.getElem?_eq_getElem (by omega)⟩
 obtain ⟨g1, g2⟩ := stC_at l (j / 2) s hs
 obtain ⟨k1, k2⟩ := hc _ _ hs
 rcases Nat.mod_two_eq_zero_or_one j with h | h
 ·have hj2 : j / 2 * 2 = j := by omega
  rw [hj2] at g1 k1
  rw [hu] at g1
  rw [k1, g1]
 ·have hj2 : j / 2 * 2 + 1 = j := by omega
  rw [hj2] at g2
  rw [hu] at g2
  rw [show o + j = o + j / 2 * 2 + 1 by omega, k2, g2]
theorem app_way (w : World) (v : Value) (l : List Stp) (hv : WayV w.heap.size w v l) (hl : l.length ≤ 1000000) :
  ∃ v' w', (Builtin.append_ #[35, 35] 35 #[.slice none 0 0, v]).run Try.prog w = .ok v' w' ∧ OwnS w.heap.size w' v' l ∧ Below w.heap.size w w' := by
 obtain ⟨A, c, rfl⟩ := hv.shape
 by_cases h0 : 0 < l.length
 ·obtain ⟨ad, rfl, hc⟩ := hv.cells h0
  obtain ⟨i, hi, hz0, hz1, hz2⟩ := info_parts Try.cellsSt
  obtain ⟨v', w', hr, h2, h3, -, h5⟩ := run_append_own_at (P := Try.prog) w w.heap.size 35 35 47 i (.agg #[.string ⟨#[]⟩, .string ⟨#[]⟩]) 2 32 Try.underlying35 hi hz0 hz1 hz2 szeroN (by omega) (.slice none 0 0) 0 [] (OwnK.nil _ _ _ _) ad l.length c (stC l) (stC_len l) hc (stC_one l) (by unfold maxLen; omega) (by omega) (Nat.le_refl _)
  rw [Nat.zero_add] at h2
  exact ⟨v', w', hr, h2, ⟨h3.os, h3.tape, h3.output, h3.size, fun k hk => h3.block k hk (by simp [Value.ownBlock])⟩⟩
 ·have e : l = [] := List.eq_nil_of_length_eq_zero (by omega)
  subst e
  exact ⟨_, w, app_none9 w A c, OwnS.nil _ _, Below.refl _ _⟩
theorem stC_app (l m : List Stp) : stC (l ++ m) = stC l ++ stC m := by
 induction l with
 | nil => rfl
 | cons s l ih => simp [stC, ih]
end Go.Proofs.Ythmobcaidhgeaaa

/- TrvH -/
import Derived.Test.YthmobcaidhgeaaaAM18
set_option linter.unusedSimpArgs false
set_option linter.unusedVariables false
set_option maxRecDepth 100000
set_option maxHeartbeats 8000000
namespace Go.Proofs.Ythmobcaidhgeaaa
open Go.RowKit
def OwnP (w : World) (base g o : Nat) (x : Nd) (F : List Nat) : Prop := ∃ v, (∀ j u, (ndC x.1 v)[j]? = some u → w.cell? ⟨g, o + j, none⟩ = some u) ∧ OwnU w base v x.2 F
def Part9 (w w' : World) (g o : Nat) : Prop := ∃ cs cs' t, w.heap[g]? = some (.cells cs t (0, 0)) ∧ w'.heap[g]? = some (.cells cs' t (0, 0)) ∧ cs'.size = cs.size ∧ ∀ j, (j < o ∨ o + 6 ≤ j) → cs'[j]? = cs[j]?
theorem Part9.same {w w' : World} {g o : Nat} {cs : Array Value} {t : TypeId} (h : Blk w g t cs) (e : w'.heap[g]? = w.heap[g]?) : Part9 w w' g o := ⟨cs, cs, t, h, e.trans h, rfl, fun _ _ => rfl⟩
def replX : Nd → List Stp → Nd → Nd
 | _, [], y => y
 | x, s :: l, y => match findN s x.2 with
  | none => x
  | some i => match x.2.get? i with
   | none => x
   | some z => (x.1, updF i (replX z l y) x.2)
theorem OwnK.part {w w' : World} {base b n c : Nat} {xs1 ys ys' xs2 : List Value} (h : OwnK 27 6 w base (.slice (some ⟨b, 0, none⟩) n c) n (xs1 ++ (ys ++ xs2))) (hy : ys.length = 6) (hy' : ys'.length = 6) (hp : Part9 w w' b xs1.length)
  (hc : ∀ j u, ys'[j]? = some u → w'.cell? ⟨b, xs1.length + j, none⟩ = some u) : OwnK 27 6 w' base (.slice (some ⟨b, 0, none⟩) n c) n (xs1 ++ (ys' ++ xs2)) := by
 obtain ⟨cur, hbk, hnc, hcm, hcs, htk, hbb⟩ := row_is h
 obtain ⟨cs, cs', t, h1, h2, h3, h4⟩ := hp
 unfold Blk at hbk
 rw [hbk] at h1
 injection h1 with h1
 injection h1 with e1 e2 _
 subst e1 e2
 have hl : (xs1 ++ (ys' ++ xs2)).length = n * 6 := by
  have := h.1
  simp only [List.length_append] at this ⊢
  omega
 have hl0 := h.1
 refine ⟨hl, .inr ⟨b, c, cs', rfl, hbb, h2, hnc, hcm, by rw [h3, hcs], ?_⟩⟩
 have hB : Blk w' b 27 cs' := h2
 refine List.ext_getElem? fun j => ?_
 rw [List.getElem?_take]
 by_cases hj : j < n * 6
 ·rw [if_pos hj, Array.getElem?_toList]
  by_cases hin : xs1.length ≤ j ∧ j < xs1.length + 6
  ·obtain ⟨k, rfl⟩ : ∃ k, j = xs1.length + k := ⟨j - xs1.length, by omega⟩
   have hk : k < ys'.length := by omega
   have := hc k ys'[k] (List.getElem?_eq_getElem hk)
   rw [hB.cell] at this
   rw [this, List.getElem?_append_right (by omega), show xs1.length + k - xs1.length = k by omega, List.getElem?_append_left hk, List.getElem?_eq_getElem hk]
  ·rw [h4 j (by omega), ← Array.getElem?_toList]
   have e := congrArg (fun l => l[j]?) htk
   simp only [List.getElem?_take, if_pos hj] at e
   rw [e]
   by_cases hlt : j < xs1.length
   ·rw [List.getElem?_append_left hlt, List.getElem?_append_left hlt]
   ·rw [List.getElem?_append_right (by omega), List.getElem?_append_right (by omega), List.getElem?_append_right (by omega), List.getElem?_append_right (by omega), hy, hy']
 ·rw [if_neg hj, List.getElem?_eq_none (by omega)]
theorem OwnU.slice_is {w : World} {base : Nat} {v : Value} {k : NdF} {F : List Nat} {i : Nat} {y : Nd} (h : OwnU w base v k F) (hy : k.get? i = some y) : ∃ b c, v = .slice (some ⟨b, 0, none⟩) k.len c := by
 obtain ⟨zs, F0, _, h1, _⟩ := h
 have := Fr.get_lt hy
 rcases h1.2 with ⟨_, h0⟩ | ⟨g, cap, cur, rfl, _⟩
 ·omega
 ·exact ⟨g, cap, rfl⟩
def Zip9 (w : World) (base : Nat) (x y : Nd) (l : List Stp) (g o g' o' : Nat) (F Fy : List Nat) : Prop :=
 ∀ (w' : World) (y' : Nd) (Fy' : List Nat), OwnP w' base g' o' y' Fy' → Fy'.Nodup → g' ∉ Fy' → (∀ h, h ∈ Fy' → h ∈ Fy ∨ w.heap.size ≤ h) → Part9 w w' g' o' → (∀ h, h < w.heap.size → h ≠ g' → h ∉ Fy → w'.heap[h]? = w.heap[h]?) →
  ∃ F', OwnP w' base g o (replX x l y') F' ∧ F'.Nodup ∧ g ∉ F' ∧ ∀ h, h ∈ F' → h ∈ F ∨ w.heap.size ≤ h
theorem zip_any (w : World) (base : Nat) : ∀ (l : List Stp) (x y : Nd) (g o g' o' : Nat) (F : List Nat), OwnP w base g o x F → F.Nodup → g ∉ F → g < w.heap.size → getX x l = some y → PAt w x l g o g' o' →
  ∃ Fy, OwnP w base g' o' y Fy ∧ (∀ h, h ∈ Fy → h ∈ F) ∧ Fy.Nodup ∧ g' ∉ Fy ∧ ((g' = g ∧ o' = o) ∨ g' ∈ F) ∧ Zip9 w base x y l g o g' o' F Fy := by
 intro l
 induction l with
 | nil =>
  intro x y g o g' o' F h hnd hg hgl hy hp
  obtain ⟨rfl, rfl⟩ := hp
  injection hy with hy
  subst hy
  exact ⟨F, h, fun _ h => h, hnd, hg, .inl ⟨rfl, rfl⟩, fun w' y' Fy' h1 h2 h3 h4 h5 h6 => ⟨Fy', h1, h2, h3, h4⟩⟩
 | cons s l ih =>
  intro x y g o g' o' F h hnd hg hgl hy hp
  obtain ⟨i, ⟨a1, k1⟩, b, p, n, c, hf, hgt, hc5, hpa⟩ := hp
  obtain ⟨a, f⟩ := x
  obtain ⟨v, hcl, hU⟩ := h
  have hv : v = .slice (some ⟨b, p, none⟩) n c := by
   have := hcl 5 v rfl
   rw [hc5] at this
   injection this with this
   exact this.symm
  obtain ⟨b2, c2, e2⟩ := hU.slice_is hgt
  rw [hv] at e2
  injection e2 with e3 e4 e5
  injection e3 with e3
  injection e3 with e3 e6 _
  subst e3 e4 e5 e6 hv
  obtain ⟨zs, F0, rfl, hK, hT⟩ := hU
  obtain ⟨xs1, v1, xs2, F1, Fk, F2, rfl, rfl, hx1, hT1, hUk, hT2⟩ := hT.at hgt
  have hbl : b < w.heap.size := (hK.lt b rfl).2
  simp only [Value.ownBlock, Option.toList, List.cons_append, List.nil_append, List.nodup_cons, List.mem_cons, List.mem_append, not_or, List.nodup_append] at hnd hg
  obtain ⟨⟨nb1, nbk, nb2⟩, nd1, ⟨ndk, nd2, ndk2⟩, nd1k⟩ := hnd
  obtain ⟨ngb, ng1, ngk, ng2⟩ := hg
  have hkid : OwnP w base b (0 + i * 6) (a1, k1) Fk := ⟨v1, fun j u hu => by
   have hj : j < 6 := (List.getElem?_eq_some_iff.1 hu).1
   have h8 := World.ownsRow.cellAt hK (0 + i * 6 + j) (by have := Fr.get_lt hgt; omega)
   rw [h8, List.getElem?_append_right (by omega), hx1, show 0 + i * 6 + j - i * 6 = j by omega, List.getElem?_append_left (by simpa using hj)]
   exact hu, hUk⟩
  rw [getX_some hf hgt] at hy
  obtain ⟨Fy, k1', k2, k3, k4, k5, k6⟩ := ih (a1, k1) y b (0 + i * 6) g' o' Fk hkid ndk nbk hbl hy hpa
  have hg' : g' = b ∨ g' ∈ Fk := by rcases k5 with ⟨e, _⟩ | h; exact .inl e; exact .inr h
  refine ⟨Fy, k1', fun h hh => by simp [k2 h hh], k3, k4, (by
   rcases hg' with h | h
   ·exact .inr (List.mem_append.2 (.inl (by simp [Value.ownBlock, h])))
   ·exact .inr (List.mem_append.2 (.inr (by simp [h])))), ?_⟩
  intro w' y' Fy' m1 m2 m3 m4 m5 m6
  obtain ⟨Fk', ⟨v1', q1, q1'⟩, q2, q3, q4⟩ := k6 w' y' Fy' m1 m2 m3 m4 m5 m6
  have hF1 : ∀ h, h ∈ F1 → h < w.heap.size := fun h hh => (hT1.fresh h hh).lt
  have hF2 : ∀ h, h ∈ F2 → h < w.heap.size := fun h hh => (hT2.fresh h hh).lt
  have hFk : ∀ h, h ∈ Fk → h < w.heap.size := fun h hh => (hUk.fresh h hh).lt
  have kept : ∀ h, h < w.heap.size → h ≠ b → h ∉ Fk → w'.heap[h]? = w.heap[h]? := fun h hh h1 h2 => m6 h hh (fun e => by rcases hg' with e' | e'; exact h1 (e.trans e'); exact h2 (e ▸ e')) (fun hm => h2 (k2 h hm))
  have hpart : Part9 w w' b (0 + i * 6) := by
   by_cases e : g' = b
   ·rcases k5 with ⟨_, e2⟩ | h
    ·rw [e2, e] at m5; exact m5
    ·exact absurd (e ▸ h) nbk
   ·obtain ⟨cur, hbk, _⟩ := row_is hK
    exact Part9.same hbk (m6 b hbl (fun h => e h.symm) (fun hm => nbk (k2 b hm)))
  refine ⟨b :: (F1 ++ (Fk' ++ F2)), ?_, ?_, ?_, ?_⟩
  ·have hr : replX (a, f) (s :: l) y' = (a, updF i (replX (a1, k1) l y') f) := by
    simp only [replX]
    rw [hf]
    simp only
    rw [hgt]
   rw [hr]
   refine ⟨.slice (some ⟨b, 0, none⟩) f.len c, fun j u hu => ?_, xs1 ++ (ndC (replX (a1, k1) l y').1 v1' ++ xs2), F1 ++ (Fk' ++ F2), rfl, ?_, ?_⟩
   ·have hgk := kept g hgl ngb ngk
    exact (World.cell?_of_block (w := w) (a := ⟨g, o + j, none⟩) hgk).trans (hcl j u hu)
   ·rw [updF_len (Fr.get_lt hgt)]
    have h0 : 0 + i * 6 = xs1.length := by omega
    rw [h0] at hpart q1
    exact OwnK.part hK (by rfl) (by rfl) hpart q1
   ·exact OwnT.upd (hT1.keep (Nat.le_refl _) (fun h hh => kept h (hF1 h hh) (fun e => nb1 (e ▸ hh)) (fun hm => nd1k h hh h (.inl hm) rfl))) q1'
     (hT2.keep (Nat.le_refl _) (fun h hh => kept h (hF2 h hh) (fun e => nb2 (e ▸ hh)) (fun hm => ndk2 h hm h hh rfl)))
  ·simp only [List.nodup_cons, List.mem_append, not_or, List.nodup_append]
   refine ⟨⟨nb1, q3, nb2⟩, nd1, ⟨q2, nd2, fun p hp r hr e => ?_⟩, fun p hp r hr e => ?_⟩
   ·subst e
    rcases q4 p hp with h | h
    ·exact ndk2 p h p hr rfl
    ·have := hF2 p hr; omega
   ·subst e
    rcases hr with hr | hr
    ·rcases q4 p hr with h | h
     ·exact nd1k p hp p (.inl h) rfl
     ·have := hF1 p hp; omega
    ·exact nd1k p hp p (.inr hr) rfl
  ·simp only [List.mem_cons, List.mem_append, not_or]
   exact ⟨ngb, ng1, fun hm => by rcases q4 g hm with h | h; exact ngk h; omega, ng2⟩
  ·intro h hh
   simp only [List.mem_cons, List.mem_append] at hh
   simp only [Value.ownBlock, Option.toList, List.cons_append, List.nil_append, List.mem_cons, List.mem_append]
   rcases hh with rfl | hh | hh | hh
   ·exact .inl (.inl rfl)
   ·exact .inl (.inr (.inl hh))
   ·rcases q4 h hh with h2 | h2
    ·exact .inl (.inr (.inr (.inl h2)))
    ·exact .inr h2
   ·exact .inl (.inr (.inr (.inr hh)))
def putF (f : NdF) (y : Nd) : NdF := match findN (stp y.1) f with
 | some i => updF i y f
 | none => withF f (match ixP (fun a => lessX y.1 a) f with | some i => i | none => f.len) 0 (oneF y)
def ChgN (base g o : Nat) (x : Nd) (Fy Fx : List Nat) (w w' : World) : Prop := ∃ Fy', OwnP w' base g o x Fy' ∧ Fy'.Nodup ∧ g ∉ Fy' ∧ (∀ h, h ∈ Fy' → h ∈ Fy ∨ h ∈ Fx ∨ w.heap.size ≤ h) ∧ Part9 w w' g o ∧ (∀ h, h < w.heap.size → h ≠ g → h ∉ Fy → w'.heap[h]? = w.heap[h]?) ∧ Below base w w'
theorem put_upd {w wq : World} {base g o b c i : Nat} {pa : NdD} {pf : NdF} {F0 Fx : List Nat} {zs : List Value} {z y : Nd} {vx : Value}
  (hcl : ∀ j u, (ndC pa (.slice (some ⟨b, 0, none⟩) pf.len c))[j]? = some u → w.cell? ⟨g, o + j, none⟩ = some u) (hK : OwnK 27 6 w base (.slice (some ⟨b, 0, none⟩) pf.len c) pf.len zs) (hT : OwnT w base pf zs F0)
  (hnd : (b :: F0).Nodup) (hg : g ∉ b :: F0) (hgf : Fresh9 base w g) (hUx : OwnU w base vx y.2 Fx) (hndx : Fx.Nodup) (hdis : ∀ h, h ∈ Fx → h ∉ b :: F0 ∧ h ≠ g) (hi : pf.get? i = some z) (hB : Below w.heap.size w wq) (hbs : base ≤ w.heap.size) :
  ChgN base g o (pa, updF i y pf) (b :: F0) Fx w (set6o wq b (i * 6) (.string (txt y.1.name)) (.string (txt y.1.key)) (.int .i64 y.1.kind) (.int .u64 (y.1.num : Int)) (.string (txt y.1.text)) vx) := by
 obtain ⟨a1, k1⟩ := z
 obtain ⟨xs1, v1, xs2, F1, Fk, F2, rfl, rfl, hx1, hT1, hUk, hT2⟩ := hT.at hi
 simp only [List.nodup_cons, List.mem_cons, List.mem_append, not_or, List.nodup_append] at hnd hg hdis
 obtain ⟨⟨nb1, nbk, nb2⟩, nd1, ⟨ndk, nd2, ndk2⟩, nd1k⟩ := hnd
 obtain ⟨ngb, ng1, ngk, ng2⟩ := hg
 have hbl := hK.lt b rfl
 have hF1 : ∀ h, h ∈ F1 → h < w.heap.size := fun h hh => (hT1.fresh h hh).lt
 have hF2 : ∀ h, h ∈ F2 → h < w.heap.size := fun h hh => (hT2.fresh h hh).lt
 have hFx : ∀ h, h ∈ Fx → h < w.heap.size := fun h hh => (hUx.fresh h hh).lt
 have kept : ∀ h, h < w.heap.size → h ≠ b → (set6o wq b (i * 6) (.string (txt y.1.name)) (.string (txt y.1.key)) (.int .i64 y.1.kind) (.int .u64 (y.1.num : Int)) (.string (txt y.1.text)) vx).heap[h]? = w.heap[h]? := fun h hh hne => (set6o_other hne).trans (hB.block h hh)
 refine ⟨b :: (F1 ++ (Fx ++ F2)), ⟨.slice (some ⟨b, 0, none⟩) pf.len c, fun j u hu => ?_, xs1 ++ (ndC y.1 vx ++ xs2), F1 ++ (Fx ++ F2), rfl, ?_, ?_⟩, ?_, ?_, ?_, ?_, ?_, ?_⟩
 ·exact (World.cell?_of_block (w := w) (a := ⟨g, o + j, none⟩) (kept g hgf.lt ngb)).trans (hcl j u hu)
 ·rw [updF_len (Fr.get_lt hi)]
  exact OwnK.set6o (hK.below hB) hx1 _ _ _ _ _ _
 ·exact OwnT.upd (a := y.1) (k := y.2) (hT1.keep (Nat.le_refl _) (fun h hh => kept h (hF1 h hh) (fun e => nb1 (e ▸ hh)))) (hUx.keep (fun h hh => kept h (hFx h hh) (fun e => (hdis h hh).1.1 e)) (Nat.le_refl _)) (hT2.keep (Nat.le_refl _) (fun h hh => kept h (hF2 h hh) (fun e => nb2 (e ▸ hh))))
 ·simp only [List.nodup_cons, List.mem_append, not_or, List.nodup_append]
  refine ⟨⟨nb1, fun h => (hdis b h).1.1 rfl, nb2⟩, nd1, ⟨hndx, nd2, fun p hp r hr e => ?_⟩, fun p hp r hr e => ?_⟩
  ·subst e; exact (hdis p hp).1.2.2.2 hr
  ·subst e
   rcases hr with hr | hr
   ·exact (hdis p hr).1.2.1 hp
   ·exact nd1k p hp p (.inr hr) rfl
 ·simp only [List.mem_cons, List.mem_append, not_or]
  exact ⟨ngb, ng1, fun h => (hdis g h).2 rfl, ng2⟩
 ·intro h hh
  simp only [List.mem_cons, List.mem_append] at hh ⊢
  rcases hh with rfl | hh | hh | hh
  ·exact .inl (.inl rfl)
  ·exact .inl (.inr (.inl hh))
  ·exact .inr (.inl hh)
  ·exact .inl (.inr (.inr (.inr hh)))
 ·obtain ⟨-, cs, t, hc⟩ := hgf
  exact Part9.same hc (kept g (Array.getElem?_eq_some_iff.1 hc).1 ngb)
 ·intro h hh h1 h2
  simp only [List.mem_cons, not_or] at h2
  exact kept h hh h2.1
 ·exact (hB.mono hbs).trans (set6o_below hbl.1)
theorem drop_take_app {f : NdF} {y : Nd} {i : Nat} : withF f i 0 (oneF y) = (Fr.take i f).app (.cons y.1 y.2 (Fr.drop i f)) := by
 unfold withF oneF
 rfl
theorem with_len0 {f : NdF} {y : Nd} {i : Nat} (h : i ≤ f.len) : (withF f i 0 (oneF y)).len = f.len + 1 := by
 have := with_len (f := f) (l := oneF y) (a := i) (m := 0) (by omega)
 have e : (oneF y).len = 1 := rfl
 omega
theorem put_ins {w wI w3 : World} {base g o i : Nat} {pa : NdD} {pf : NdF} {F0 Fx : List Nat} {zs : List Value} {y : Nd} {v v' vx : Value}
  (hcl : ∀ j u, (ndC pa v)[j]? = some u → w.cell? ⟨g, o + j, none⟩ = some u) (hK : OwnK 27 6 w base v pf.len zs) (hT : OwnT w base pf zs F0)
  (hnd : (v.ownBlock.toList ++ F0).Nodup) (hg : g ∉ v.ownBlock.toList ++ F0) (hgf : Fresh9 base w g) (hUx : OwnU w base vx y.2 Fx) (hndx : Fx.Nodup) (hdis : ∀ h, h ∈ Fx → h ∉ v.ownBlock.toList ++ F0 ∧ h ≠ g) (hi : i ≤ pf.len) (hB : Below w.heap.size w wI) (hbs : base ≤ w.heap.size)
  (hI : OwnK 27 6 w3 base v' (pf.len + 1) (zs.take (i * 6) ++ ndC y.1 vx ++ zs.drop (i * 6))) (hgr : wI.grownBy w3 v.ownBlock) (hv' : v'.ownBlock = v.ownBlock ∨ ∃ h, v'.ownBlock = some h ∧ wI.heap.size ≤ h) :
  ChgN base g o (pa, withF pf i 0 (oneF y)) (v.ownBlock.toList ++ F0) Fx w (w3.setCell ⟨g, o + 5, none⟩ v') := by
 obtain ⟨xs1, xs2, F1, F2, rfl, rfl, hT1, hT2⟩ := hT.split i
 have hx1 : xs1.length = i * 6 := by rw [hT1.len, Fr.len_take _ _ hi]
 rw [← hx1, List.take_left, List.drop_left, List.append_assoc] at hI
 have hgl := hgf.lt
 have hmem : ∀ h, h ∈ F1 ++ F2 → v.ownBlock ≠ some h := fun h hh e => by
  rw [e] at hnd
  simp only [Option.toList, List.cons_append, List.nil_append, List.nodup_cons] at hnd
  exact hnd.1 hh
 have hgv : v.ownBlock ≠ some g := fun e => hg (by rw [e]; simp)
 have hg1 : g ∉ F1 ++ F2 := fun h => hg (List.mem_append.2 (.inr h))
 have hnd2 : (F1 ++ F2).Nodup := (List.nodup_append.1 hnd).2.1
 obtain ⟨nd1, nd2, nd12⟩ := List.nodup_append.1 hnd2
 have kept3 : ∀ h, h < w.heap.size → v.ownBlock ≠ some h → w3.heap[h]? = w.heap[h]? := fun h hh hne => (hgr.block h (Nat.lt_of_lt_of_le hh hB.size) (fun e => hne e.symm)).trans (hB.block h hh)
 have kept : ∀ h, h < w.heap.size → h ≠ g → v.ownBlock ≠ some h → (w3.setCell ⟨g, o + 5, none⟩ v').heap[h]? = w.heap[h]? := fun h hh h1 h2 => (Below.heap_setCell _ _ _ _ h1).trans (kept3 h hh h2)
 have hF1 : ∀ h, h ∈ F1 → h < w.heap.size := fun h hh => (hT1.fresh h hh).lt
 have hF2 : ∀ h, h ∈ F2 → h < w.heap.size := fun h hh => (hT2.fresh h hh).lt
 have hFx : ∀ h, h ∈ Fx → h < w.heap.size := fun h hh => (hUx.fresh h hh).lt
 have hxv : ∀ h, h ∈ Fx → v.ownBlock ≠ some h := fun h hh e => (hdis h hh).1 (by rw [e]; simp)
 have hnew : ∀ h, v'.ownBlock = some h → h ≠ g ∧ h ∉ F1 ∧ h ∉ Fx ∧ h ∉ F2 ∧ (v.ownBlock = some h ∨ w.heap.size ≤ h) := fun h e => by
  rcases hv' with h1 | ⟨k, h1, h2⟩
  ·rw [e] at h1
   exact ⟨fun e2 => hgv (by rw [← e2]; exact h1.symm), fun hm => hmem h (List.mem_append.2 (.inl hm)) h1.symm, fun hm => hxv h hm h1.symm, fun hm => hmem h (List.mem_append.2 (.inr hm)) h1.symm, .inl h1.symm⟩
  ·rw [e] at h1
   injection h1 with h1
   subst h1
   have := hB.size
   exact ⟨by omega, fun hm => by have := hF1 h hm; omega, fun hm => by have := hFx h hm; omega, fun hm => by have := hF2 h hm; omega, .inr (by omega)⟩
 obtain ⟨hgb, cs, t, hcs⟩ := hgf
 have hcs3 : w3.heap[g]? = some (.cells cs t (0, 0)) := (kept3 g hgl hgv).trans hcs
 have hset : (w3.setCell ⟨g, o + 5, none⟩ v').heap[g]? = some (.cells (cs.setIfInBounds (o + 5) v') t (0, 0)) := by simp [World.setCell, Array.getElem?_modify, hcs3]
 have hsz5 : o + 5 < cs.size := by
  have := hcl 5 v rfl
  rw [cell_of_row w g (o + 5) cs t (0, 0) hcs] at this
  exact (Array.getElem?_eq_some_iff.1 this).1
 refine ⟨v'.ownBlock.toList ++ (F1 ++ (Fx ++ F2)), ⟨v', fun j u hu => ?_, xs1 ++ (ndC y.1 vx ++ xs2), F1 ++ (Fx ++ F2), rfl, ?_, ?_⟩, ?_, ?_, ?_, ?_, ?_, ?_⟩
 ·have hj : j < 6 := (List.getElem?_eq_some_iff.1 hu).1
  rw [cell_of_row _ g (o + j) _ t (0, 0) hset]
  by_cases h5 : j = 5
  ·subst h5
   rw [Array.getElem?_setIfInBounds, if_pos rfl, if_pos hsz5]
   exact hu
  ·rw [Array.getElem?_setIfInBounds, if_neg (by omega), ← cell_of_row w g (o + j) cs t (0, 0) hcs]
   refine hcl j u ?_
   have : j = 0 ∨ j = 1 ∨ j = 2 ∨ j = 3 ∨ j = 4 := by omega
   rcases this with rfl | rfl | rfl | rfl | rfl <;> exact hu
 ·rw [with_len0 hi]
  exact hI.keep (fun h e => Below.heap_setCell _ _ _ _ (hnew h e).1)
 ·rw [drop_take_app]
  exact OwnT.app (OwnT.cons_iff.2 ⟨vx, xs2, Fx, F2, rfl, rfl, hUx.keep (fun h hh => kept h (hFx h hh) (hdis h hh).2 (hxv h hh)) (Nat.le_refl _), hT2.keep (Nat.le_refl _) (fun h hh => kept h (hF2 h hh) (fun e => hg1 (by rw [← e]; exact List.mem_append.2 (.inr hh))) (hmem h (List.mem_append.2 (.inr hh))))⟩)
   (hT1.keep (Nat.le_refl _) (fun h hh => kept h (hF1 h hh) (fun e => hg1 (by rw [← e]; exact List.mem_append.2 (.inl hh))) (hmem h (List.mem_append.2 (.inl hh)))))
 ·have hin : (F1 ++ (Fx ++ F2)).Nodup := by
   simp only [List.nodup_append, List.mem_append]
   refine ⟨nd1, ⟨hndx, nd2, fun p hp r hr e => ?_⟩, fun p hp r hr e => ?_⟩
   ·subst e; exact (hdis p hp).1 (List.mem_append.2 (.inr (List.mem_append.2 (.inr hr))))
   ·subst e
    rcases hr with hr | hr
    ·exact (hdis p hr).1 (List.mem_append.2 (.inr (List.mem_append.2 (.inl hp))))
    ·exact nd12 p hp p hr rfl
  cases e : v'.ownBlock with
  | none => simpa using hin
  | some h =>
   simp only [Option.toList, List.cons_append, List.nil_append, List.nodup_cons, List.mem_append, not_or]
   exact ⟨⟨(hnew h e).2.1, (hnew h e).2.2.1, (hnew h e).2.2.2.1⟩, hin⟩
 ·intro hm
  simp only [List.mem_append, Option.mem_toList] at hm
  rcases hm with hm | hm | hm | hm
  ·exact (hnew g hm).1 rfl
  ·exact hg1 (List.mem_append.2 (.inl hm))
  ·exact (hdis g hm).2 rfl
  ·exact hg1 (List.mem_append.2 (.inr hm))
 ·intro h hm
  simp only [List.mem_append, Option.mem_toList] at hm ⊢
  rcases hm with hm | hm | hm | hm
  ·rcases (hnew h hm).2.2.2.2 with h1 | h1
   ·exact .inl (.inl h1)
   ·exact .inr (.inr h1)
  ·exact .inl (.inr (.inl hm))
  ·exact .inr (.inl hm)
  ·exact .inl (.inr (.inr hm))
 ·exact ⟨cs, _, t, hcs, hset, by simp, fun j hj => by rw [Array.getElem?_setIfInBounds, if_neg (by omega)]⟩
 ·intro h hh h1 h2
  simp only [List.mem_append, Option.mem_toList, not_or] at h2
  exact kept h hh h1 h2.1
 ·have hb3 : Below base wI w3 := (Below.refl _ _).grown hgr (Nat.le_trans hbs hB.size) (fun b e => (hK.lt b e).1)
  exact ((hB.mono hbs).trans hb3).setCell (p := ⟨g, o + 5, none⟩) hgb _
end Go.Proofs.Ythmobcaidhgeaaa

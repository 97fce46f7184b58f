/- What the laws of package tree want of TrxC. -/
import Derived.Test.YtgipnemcmiohlaaZ0TrxB
namespace Go.Proofs.Ytgipnemcmiohlaa
open Go.RowKit
set_option linter.unusedSimpArgs false
set_option linter.unusedVariables false
/-- The node x stands at a place, and its row is the call's own. -/
def OwnP (w : World) (base g o : Nat) (x : Nd) (F : List Nat) : Prop := ∃ v, (∀ j u, (ndC x.1 v)[j]? = some u → w.cell? ⟨g, o + j, none⟩ = some u) ∧ OwnU w base v x.2 F
/-- A block is as it was, but for six cells. -/
def Part9 (w w' : World) (g o : Nat) : Prop := ∃ cs cs' t, w.heap[g]? = some (.cells cs t (0, 0)) ∧ w'.heap[g]? = some (.cells cs' t (0, 0)) ∧ cs'.size = cs.size ∧ ∀ j, (j < o ∨ o + 6 ≤ j) → cs'[j]? = cs[j]?
theorem Part9.same {w w' : World} {g o : Nat} {cs : Array Value} {t : TypeId} (h : Blk w g t cs) (e : w'.heap[g]? = w.heap[g]?) : Part9 w w' g o := ⟨cs, cs, t, h, e.trans h, rfl, fun _ _ => rfl⟩
/-- A tree of which the node at the end of a way is another. -/
def replX : Nd → List Stp → Nd → Nd
  | _, [], y => y
  | x, s :: l, y => match findN s x.2 with
    | none => x
    | some i => match x.2.get? i with
      | none => x
      | some z => (x.1, updF i (replX z l y) x.2)
theorem OwnK.part {w w' : World} {base b n c : Nat} {xs1 ys ys' xs2 : List Value} (h : OwnK 27 6 w base (.slice (some ⟨b, 0, none⟩) n c) n (xs1 ++ (ys ++ xs2))) (hy : ys.length = 6) (hy' : ys'.length = 6) (hp : Part9 w w' b xs1.length)
    (hc : ∀ j u, ys'[j]? = some u → w'.cell? ⟨b, xs1.length + j, none⟩ = some u) : OwnK 27 6 w' base (.slice (some ⟨b, 0, none⟩) n c) n (xs1 ++ (ys' ++ xs2)) := by
  obtain ⟨cur, hbk, hnc, hcm, hcs, htk, hbb⟩ := row_is h
  obtain ⟨cs, cs', t, h1, h2, h3, h4⟩ := hp
  unfold Blk at hbk
  rw [hbk] at h1
  injection h1 with h1
  injection h1 with e1 e2 _
  subst e1 e2
  have hl : (xs1 ++ (ys' ++ xs2)).length = n * 6 := by
    have := h.1
    simp only [List.length_append] at this ⊢
    omega
  have hl0 := h.1
  refine ⟨hl, .inr ⟨b, c, cs', rfl, hbb, h2, hnc, hcm, by rw [h3, hcs], ?_⟩⟩
  have hB : Blk w' b 27 cs' := h2
  refine List.ext_getElem? fun j => ?_
  rw [List.getElem?_take]
  by_cases hj : j < n * 6
  · rw [if_pos hj, Array.getElem?_toList]
    by_cases hin : xs1.length ≤ j ∧ j < xs1.length + 6
    · obtain ⟨k, rfl⟩ : ∃ k, j = xs1.length + k := ⟨j - xs1.length, by omega⟩
      have hk : k < ys'.length := by omega
      have := hc k ys'[k] (List.getElem?_eq_getElem hk)
      rw [hB.cell] at this
      rw [this, List.getElem?_append_right (by omega), show xs1.length + k - xs1.length = k by omega, List.getElem?_append_left hk, List.getElem?_eq_getElem hk]
    · rw [h4 j (by omega), ← Array.getElem?_toList]
      have e := congrArg (fun l => l[j]?) htk
      simp only [List.getElem?_take, if_pos hj] at e
      rw [e]
      by_cases hlt : j < xs1.length
      · rw [List.getElem?_append_left hlt, List.getElem?_append_left hlt]
      · rw [List.getElem?_append_right (by omega), List.getElem?_append_right (by omega), List.getElem?_append_right (by omega), List.getElem?_append_right (by omega), hy, hy']
  · rw [if_neg hj, List.getElem?_eq_none (by omega)]
theorem OwnU.slice_is {w : World} {base : Nat} {v : Value} {k : NdF} {F : List Nat} {i : Nat} {y : Nd} (h : OwnU w base v k F) (hy : k.get? i = some y) : ∃ b c, v = .slice (some ⟨b, 0, none⟩) k.len c := by
  obtain ⟨zs, F0, _, h1, _⟩ := h
  have := Fr.get_lt hy
  rcases h1.2 with ⟨_, h0⟩ | ⟨g, cap, cur, rfl, _⟩
  · omega
  · exact ⟨g, cap, rfl⟩
/-- What a node written over leaves of the tree around it. -/
def Zip9 (w : World) (base : Nat) (x y : Nd) (l : List Stp) (g o g' o' : Nat) (F Fy : List Nat) : Prop :=
  ∀ (w' : World) (y' : Nd) (Fy' : List Nat), OwnP w' base g' o' y' Fy' → Fy'.Nodup → g' ∉ Fy' → (∀ h, h ∈ Fy' → h ∈ Fy ∨ w.heap.size ≤ h) → Part9 w w' g' o' → (∀ h, h < w.heap.size → h ≠ g' → h ∉ Fy → w'.heap[h]? = w.heap[h]?) →
    ∃ F', OwnP w' base g o (replX x l y') F' ∧ F'.Nodup ∧ g ∉ F' ∧ ∀ h, h ∈ F' → h ∈ F ∨ w.heap.size ≤ h
theorem zip_any (w : World) (base : Nat) : ∀ (l : List Stp) (x y : Nd) (g o g' o' : Nat) (F : List Nat), OwnP w base g o x F → F.Nodup → g ∉ F → g < w.heap.size → getX x l = some y → PAt w x l g o g' o' →
    ∃ Fy, OwnP w base g' o' y Fy ∧ (∀ h, h ∈ Fy → h ∈ F) ∧ Fy.Nodup ∧ g' ∉ Fy ∧ ((g' = g ∧ o' = o) ∨ g' ∈ F) ∧ Zip9 w base x y l g o g' o' F Fy := by
  intro l
  induction l with
  | nil =>
    intro x y g o g' o' F h hnd hg hgl hy hp
    obtain ⟨rfl, rfl⟩ := hp
    injection hy with hy
    subst hy
    exact ⟨F, h, fun _ h => h, hnd, hg, .inl ⟨rfl, rfl⟩, fun w' y' Fy' h1 h2 h3 h4 h5 h6 => ⟨Fy', h1, h2, h3, h4⟩⟩
  | cons s l ih =>
    intro x y g o g' o' F h hnd hg hgl hy hp
    obtain ⟨i, ⟨a1, k1⟩, b, p, n, c, hf, hgt, hc5, hpa⟩ := hp
    obtain ⟨a, f⟩ := x
    obtain ⟨v, hcl, hU⟩ := h
    have hv : v = .slice (some ⟨b, p, none⟩) n c := by
      have := hcl 5 v rfl
      rw [hc5] at this
      injection this with this
      exact this.symm
    obtain ⟨b2, c2, e2⟩ := hU.slice_is hgt
    rw [hv] at e2
    injection e2 with e3 e4 e5
    injection e3 with e3
    injection e3 with e3 e6 _
    subst e3 e4 e5 e6 hv
    obtain ⟨zs, F0, rfl, hK, hT⟩ := hU
    obtain ⟨xs1, v1, xs2, F1, Fk, F2, rfl, rfl, hx1, hT1, hUk, hT2⟩ := hT.at hgt
    have hbl : b < w.heap.size := (hK.lt b rfl).2
    simp only [Value.ownBlock, Option.toList, List.cons_append, List.nil_append, List.nodup_cons, List.mem_cons, List.mem_append, not_or, List.nodup_append] at hnd hg
    obtain ⟨⟨nb1, nbk, nb2⟩, nd1, ⟨ndk, nd2, ndk2⟩, nd1k⟩ := hnd
    obtain ⟨ngb, ng1, ngk, ng2⟩ := hg
    have hkid : OwnP w base b (0 + i * 6) (a1, k1) Fk := ⟨v1, fun j u hu => by
      have hj : j < 6 := (List.getElem?_eq_some_iff.1 hu).1
      have h8 := World.ownsRow.cellAt hK (0 + i * 6 + j) (by have := Fr.get_lt hgt; omega)
      rw [h8, List.getElem?_append_right (by omega), hx1, show 0 + i * 6 + j - i * 6 = j by omega, List.getElem?_append_left (by simpa using hj)]
      exact hu, hUk⟩
    rw [getX_some hf hgt] at hy
    obtain ⟨Fy, k1', k2, k3, k4, k5, k6⟩ := ih (a1, k1) y b (0 + i * 6) g' o' Fk hkid ndk nbk hbl hy hpa
    have hg' : g' = b ∨ g' ∈ Fk := by rcases k5 with ⟨e, _⟩ | h; exact .inl e; exact .inr h
    refine ⟨Fy, k1', fun h hh => by simp [k2 h hh], k3, k4, (by
      rcases hg' with h | h
      · exact .inr (List.mem_append.2 (.inl (by simp [Value.ownBlock, h])))
      · exact .inr (List.mem_append.2 (.inr (by simp [h])))), ?_⟩
    intro w' y' Fy' m1 m2 m3 m4 m5 m6
    obtain ⟨Fk', ⟨v1', q1, q1'⟩, q2, q3, q4⟩ := k6 w' y' Fy' m1 m2 m3 m4 m5 m6
    have hF1 : ∀ h, h ∈ F1 → h < w.heap.size := fun h hh => (hT1.fresh h hh).lt
    have hF2 : ∀ h, h ∈ F2 → h < w.heap.size := fun h hh => (hT2.fresh h hh).lt
    have hFk : ∀ h, h ∈ Fk → h < w.heap.size := fun h hh => (hUk.fresh h hh).lt
    have kept : ∀ h, h < w.heap.size → h ≠ b → h ∉ Fk → w'.heap[h]? = w.heap[h]? := fun h hh h1 h2 => m6 h hh (fun e => by rcases hg' with e' | e'; exact h1 (e.trans e'); exact h2 (e ▸ e')) (fun hm => h2 (k2 h hm))
    have hpart : Part9 w w' b (0 + i * 6) := by
      by_cases e : g' = b
      · rcases k5 with ⟨_, e2⟩ | h
        · rw [e2, e] at m5; exact m5
        · exact absurd (e ▸ h) nbk
      · obtain ⟨cur, hbk, _⟩ := row_is hK
        exact Part9.same hbk (m6 b hbl (fun h => e h.symm) (fun hm => nbk (k2 b hm)))
    refine ⟨b :: (F1 ++ (Fk' ++ F2)), ?_, ?_, ?_, ?_⟩
    · have hr : replX (a, f) (s :: l) y' = (a, updF i (replX (a1, k1) l y') f) := by
        simp only [replX]
        rw [hf]
        simp only
        rw [hgt]
      rw [hr]
      refine ⟨.slice (some ⟨b, 0, none⟩) f.len c, fun j u hu => ?_, xs1 ++ (ndC (replX (a1, k1) l y').1 v1' ++ xs2), F1 ++ (Fk' ++ F2), rfl, ?_, ?_⟩
      · have hgk := kept g hgl ngb ngk
        exact (World.cell?_of_block (w := w) (a := ⟨g, o + j, none⟩) hgk).trans (hcl j u hu)
      · rw [updF_len (Fr.get_lt hgt)]
        have h0 : 0 + i * 6 = xs1.length := by omega
        rw [h0] at hpart q1
        exact OwnK.part hK (by rfl) (by rfl) hpart q1
      · exact OwnT.upd (hT1.keep (Nat.le_refl _) (fun h hh => kept h (hF1 h hh) (fun e => nb1 (e ▸ hh)) (fun hm => nd1k h hh h (.inl hm) rfl))) q1'
          (hT2.keep (Nat.le_refl _) (fun h hh => kept h (hF2 h hh) (fun e => nb2 (e ▸ hh)) (fun hm => ndk2 h hm h hh rfl)))
    · simp only [List.nodup_cons, List.mem_append, not_or, List.nodup_append]
      refine ⟨⟨nb1, q3, nb2⟩, nd1, ⟨q2, nd2, fun p hp r hr e => ?_⟩, fun p hp r hr e => ?_⟩
      · subst e
        rcases q4 p hp with h | h
        · exact ndk2 p h p hr rfl
        · have := hF2 p hr; omega
      · subst e
        rcases hr with hr | hr
        · rcases q4 p hr with h | h
          · exact nd1k p hp p (.inl h) rfl
          · have := hF1 p hp; omega
        · exact nd1k p hp p (.inr hr) rfl
    · simp only [List.mem_cons, List.mem_append, not_or]
      exact ⟨ngb, ng1, fun hm => by rcases q4 g hm with h | h; exact ngk h; omega, ng2⟩
    · intro h hh
      simp only [List.mem_cons, List.mem_append] at hh
      simp only [Value.ownBlock, Option.toList, List.cons_append, List.nil_append, List.mem_cons, List.mem_append]
      rcases hh with rfl | hh | hh | hh
      · exact .inl (.inl rfl)
      · exact .inl (.inr (.inl hh))
      · rcases q4 h hh with h2 | h2
        · exact .inl (.inr (.inr (.inl h2)))
        · exact .inr h2
      · exact .inl (.inr (.inr (.inr hh)))
/-- A node laid into a row: in the place of the one with its step, or where it goes. -/
def putF (f : NdF) (y : Nd) : NdF := match findN (stp y.1) f with
  | some i => updF i y f
  | none => withF f (match ixP (fun a => lessX y.1 a) f with | some i => i | none => f.len) 0 (oneF y)
/-- What a change of the node at a place leaves. -/
def ChgN (base g o : Nat) (x : Nd) (Fy Fx : List Nat) (w w' : World) : Prop := ∃ Fy', OwnP w' base g o x Fy' ∧ Fy'.Nodup ∧ g ∉ Fy' ∧ (∀ h, h ∈ Fy' → h ∈ Fy ∨ h ∈ Fx ∨ w.heap.size ≤ h) ∧ Part9 w w' g o ∧ (∀ h, h < w.heap.size → h ≠ g → h ∉ Fy → w'.heap[h]? = w.heap[h]?) ∧ Below base w w'
theorem put_upd {w wq : World} {base g o b c i : Nat} {pa : NdD} {pf : NdF} {F0 Fx : List Nat} {zs : List Value} {z y : Nd} {vx : Value}
    (hcl : ∀ j u, (ndC pa (.slice (some ⟨b, 0, none⟩) pf.len c))[j]? = some u → w.cell? ⟨g, o + j, none⟩ = some u) (hK : OwnK 27 6 w base (.slice (some ⟨b, 0, none⟩) pf.len c) pf.len zs) (hT : OwnT w base pf zs F0)
    (hnd : (b :: F0).Nodup) (hg : g ∉ b :: F0) (hgf : Fresh9 base w g) (hUx : OwnU w base vx y.2 Fx) (hndx : Fx.Nodup) (hdis : ∀ h, h ∈ Fx → h ∉ b :: F0 ∧ h ≠ g) (hi : pf.get? i = some z) (hB : Below w.heap.size w wq) (hbs : base ≤ w.heap.size) :
    ChgN base g o (pa, updF i y pf) (b :: F0) Fx w (set6o wq b (i * 6) (.string (txt y.1.name)) (.string (txt y.1.key)) (.int .i64 y.1.kind) (.int .u64 (y.1.num : Int)) (.string (txt y.1.text)) vx) := by
  obtain ⟨a1, k1⟩ := z
  obtain ⟨xs1, v1, xs2, F1, Fk, F2, rfl, rfl, hx1, hT1, hUk, hT2⟩ := hT.at hi
  simp only [List.nodup_cons, List.mem_cons, List.mem_append, not_or, List.nodup_append] at hnd hg hdis
  obtain ⟨⟨nb1, nbk, nb2⟩, nd1, ⟨ndk, nd2, ndk2⟩, nd1k⟩ := hnd
  obtain ⟨ngb, ng1, ngk, ng2⟩ := hg
  have hbl := hK.lt b rfl
  have hF1 : ∀ h, h ∈ F1 → h < w.heap.size := fun h hh => (hT1.fresh h hh).lt
  have hF2 : ∀ h, h ∈ F2 → h < w.heap.size := fun h hh => (hT2.fresh h hh).lt
  have hFx : ∀ h, h ∈ Fx → h < w.heap.size := fun h hh => (hUx.fresh h hh).lt
  have kept : ∀ h, h < w.heap.size → h ≠ b → (set6o wq b (i * 6) (.string (txt y.1.name)) (.string (txt y.1.key)) (.int .i64 y.1.kind) (.int .u64 (y.1.num : Int)) (.string (txt y.1.text)) vx).heap[h]? = w.heap[h]? := fun h hh hne => (set6o_other hne).trans (hB.block h hh)
  refine ⟨b :: (F1 ++ (Fx ++ F2)), ⟨.slice (some ⟨b, 0, none⟩) pf.len c, fun j u hu => ?_, xs1 ++ (ndC y.1 vx ++ xs2), F1 ++ (Fx ++ F2), rfl, ?_, ?_⟩, ?_, ?_, ?_, ?_, ?_, ?_⟩
  · exact (World.cell?_of_block (w := w) (a := ⟨g, o + j, none⟩) (kept g hgf.lt ngb)).trans (hcl j u hu)
  · rw [updF_len (Fr.get_lt hi)]
    exact OwnK.set6o (hK.below hB) hx1 _ _ _ _ _ _
  · exact OwnT.upd (a := y.1) (k := y.2) (hT1.keep (Nat.le_refl _) (fun h hh => kept h (hF1 h hh) (fun e => nb1 (e ▸ hh)))) (hUx.keep (fun h hh => kept h (hFx h hh) (fun e => (hdis h hh).1.1 e)) (Nat.le_refl _)) (hT2.keep (Nat.le_refl _) (fun h hh => kept h (hF2 h hh) (fun e => nb2 (e ▸ hh))))
  · simp only [List.nodup_cons, List.mem_append, not_or, List.nodup_append]
    refine ⟨⟨nb1, fun h => (hdis b h).1.1 rfl, nb2⟩, nd1, ⟨hndx, nd2, fun p hp r hr e => ?_⟩, fun p hp r hr e => ?_⟩
    · subst e; exact (hdis p hp).1.2.2.2 hr
    · subst e
      rcases hr with hr | hr
      · exact (hdis p hr).1.2.1 hp
      · exact nd1k p hp p (.inr hr) rfl
  · simp only [List.mem_cons, List.mem_append, not_or]
    exact ⟨ngb, ng1, fun h => (hdis g h).2 rfl, ng2⟩
  · intro h hh
    simp only [List.mem_cons, List.mem_append] at hh ⊢
    rcases hh with rfl | hh | hh | hh
    · exact .inl (.inl rfl)
    · exact .inl (.inr (.inl hh))
    · exact .inr (.inl hh)
    · exact .inl (.inr (.inr (.inr hh)))
  · obtain ⟨-, cs, t, hc⟩ := hgf
    exact Part9.same hc (kept g (Array.getElem?_eq_some_iff.1 hc).1 ngb)
  · intro h hh h1 h2
    simp only [List.mem_cons, not_or] at h2
    exact kept h hh h2.1
  · exact (hB.mono hbs).trans (set6o_below hbl.1)
theorem drop_take_app {f : NdF} {y : Nd} {i : Nat} : withF f i 0 (oneF y) = (Fr.take i f).app (.cons y.1 y.2 (Fr.drop i f)) := by
  unfold withF oneF
  rfl
theorem with_len0 {f : NdF} {y : Nd} {i : Nat} (h : i ≤ f.len) : (withF f i 0 (oneF y)).len = f.len + 1 := by
  have := with_len (f := f) (l := oneF y) (a := i) (m := 0) (by omega)
  have e : (oneF y).len = 1 := rfl
  omega
theorem put_ins {w wI w3 : World} {base g o i : Nat} {pa : NdD} {pf : NdF} {F0 Fx : List Nat} {zs : List Value} {y : Nd} {v v' vx : Value}
    (hcl : ∀ j u, (ndC pa v)[j]? = some u → w.cell? ⟨g, o + j, none⟩ = some u) (hK : OwnK 27 6 w base v pf.len zs) (hT : OwnT w base pf zs F0)
    (hnd : (v.ownBlock.toList ++ F0).Nodup) (hg : g ∉ v.ownBlock.toList ++ F0) (hgf : Fresh9 base w g) (hUx : OwnU w base vx y.2 Fx) (hndx : Fx.Nodup) (hdis : ∀ h, h ∈ Fx → h ∉ v.ownBlock.toList ++ F0 ∧ h ≠ g) (hi : i ≤ pf.len) (hB : Below w.heap.size w wI) (hbs : base ≤ w.heap.size)
    (hI : OwnK 27 6 w3 base v' (pf.len + 1) (zs.take (i * 6) ++ ndC y.1 vx ++ zs.drop (i * 6))) (hgr : wI.grownBy w3 v.ownBlock) (hv' : v'.ownBlock = v.ownBlock ∨ ∃ h, v'.ownBlock = some h ∧ wI.heap.size ≤ h) :
    ChgN base g o (pa, withF pf i 0 (oneF y)) (v.ownBlock.toList ++ F0) Fx w (w3.setCell ⟨g, o + 5, none⟩ v') := by
  obtain ⟨xs1, xs2, F1, F2, rfl, rfl, hT1, hT2⟩ := hT.split i
  have hx1 : xs1.length = i * 6 := by rw [hT1.len, Fr.len_take _ _ hi]
  rw [← hx1, List.take_left, List.drop_left, List.append_assoc] at hI
  have hgl := hgf.lt
  have hmem : ∀ h, h ∈ F1 ++ F2 → v.ownBlock ≠ some h := fun h hh e => by
    rw [e] at hnd
    simp only [Option.toList, List.cons_append, List.nil_append, List.nodup_cons] at hnd
    exact hnd.1 hh
  have hgv : v.ownBlock ≠ some g := fun e => hg (by rw [e]; simp)
  have hg1 : g ∉ F1 ++ F2 := fun h => hg (List.mem_append.2 (.inr h))
  have hnd2 : (F1 ++ F2).Nodup := (List.nodup_append.1 hnd).2.1
  obtain ⟨nd1, nd2, nd12⟩ := List.nodup_append.1 hnd2
  have kept3 : ∀ h, h < w.heap.size → v.ownBlock ≠ some h → w3.heap[h]? = w.heap[h]? := fun h hh hne => (hgr.block h (Nat.lt_of_lt_of_le hh hB.size) (fun e => hne e.symm)).trans (hB.block h hh)
  have kept : ∀ h, h < w.heap.size → h ≠ g → v.ownBlock ≠ some h → (w3.setCell ⟨g, o + 5, none⟩ v').heap[h]? = w.heap[h]? := fun h hh h1 h2 => (Below.heap_setCell _ _ _ _ h1).trans (kept3 h hh h2)
  have hF1 : ∀ h, h ∈ F1 → h < w.heap.size := fun h hh => (hT1.fresh h hh).lt
  have hF2 : ∀ h, h ∈ F2 → h < w.heap.size := fun h hh => (hT2.fresh h hh).lt
  have hFx : ∀ h, h ∈ Fx → h < w.heap.size := fun h hh => (hUx.fresh h hh).lt
  have hxv : ∀ h, h ∈ Fx → v.ownBlock ≠ some h := fun h hh e => (hdis h hh).1 (by rw [e]; simp)
  have hnew : ∀ h, v'.ownBlock = some h → h ≠ g ∧ h ∉ F1 ∧ h ∉ Fx ∧ h ∉ F2 ∧ (v.ownBlock = some h ∨ w.heap.size ≤ h) := fun h e => by
    rcases hv' with h1 | ⟨k, h1, h2⟩
    · rw [e] at h1
      exact ⟨fun e2 => hgv (by rw [← e2]; exact h1.symm), fun hm => hmem h (List.mem_append.2 (.inl hm)) h1.symm, fun hm => hxv h hm h1.symm, fun hm => hmem h (List.mem_append.2 (.inr hm)) h1.symm, .inl h1.symm⟩
    · rw [e] at h1
      injection h1 with h1
      subst h1
      have := hB.size
      exact ⟨by omega, fun hm => by have := hF1 h hm; omega, fun hm => by have := hFx h hm; omega, fun hm => by have := hF2 h hm; omega, .inr (by omega)⟩
  obtain ⟨hgb, cs, t, hcs⟩ := hgf
  have hcs3 : w3.heap[g]? = some (.cells cs t (0, 0)) := (kept3 g hgl hgv).trans hcs
  have hset : (w3.setCell ⟨g, o + 5, none⟩ v').heap[g]? = some (.cells (cs.setIfInBounds (o + 5) v') t (0, 0)) := by simp [World.setCell, Array.getElem?_modify, hcs3]
  have hsz5 : o + 5 < cs.size := by
    have := hcl 5 v rfl
    rw [cell_of_row w g (o + 5) cs t (0, 0) hcs] at this
    exact (Array.getElem?_eq_some_iff.1 this).1
  refine ⟨v'.ownBlock.toList ++ (F1 ++ (Fx ++ F2)), ⟨v', fun j u hu => ?_, xs1 ++ (ndC y.1 vx ++ xs2), F1 ++ (Fx ++ F2), rfl, ?_, ?_⟩, ?_, ?_, ?_, ?_, ?_, ?_⟩
  · have hj : j < 6 := (List.getElem?_eq_some_iff.1 hu).1
    rw [cell_of_row _ g (o + j) _ t (0, 0) hset]
    by_cases h5 : j = 5
    · subst h5
      rw [Array.getElem?_setIfInBounds, if_pos rfl, if_pos hsz5]
      exact hu
    · rw [Array.getElem?_setIfInBounds, if_neg (by omega), ← cell_of_row w g (o + j) cs t (0, 0) hcs]
      refine hcl j u ?_
      have : j = 0 ∨ j = 1 ∨ j = 2 ∨ j = 3 ∨ j = 4 := by omega
      rcases this with rfl | rfl | rfl | rfl | rfl <;> exact hu
  · rw [with_len0 hi]
    exact hI.keep (fun h e => Below.heap_setCell _ _ _ _ (hnew h e).1)
  · rw [drop_take_app]
    exact OwnT.app (OwnT.cons_iff.2 ⟨vx, xs2, Fx, F2, rfl, rfl, hUx.keep (fun h hh => kept h (hFx h hh) (hdis h hh).2 (hxv h hh)) (Nat.le_refl _), hT2.keep (Nat.le_refl _) (fun h hh => kept h (hF2 h hh) (fun e => hg1 (by rw [← e]; exact List.mem_append.2 (.inr hh))) (hmem h (List.mem_append.2 (.inr hh))))⟩)
      (hT1.keep (Nat.le_refl _) (fun h hh => kept h (hF1 h hh) (fun e => hg1 (by rw [← e]; exact List.mem_append.2 (.inl hh))) (hmem h (List.mem_append.2 (.inl hh)))))
  · have hin : (F1 ++ (Fx ++ F2)).Nodup := by
      simp only [List.nodup_append, List.mem_append]
      refine ⟨nd1, ⟨hndx, nd2, fun p hp r hr e => ?_⟩, fun p hp r hr e => ?_⟩
      · subst e; exact (hdis p hp).1 (List.mem_append.2 (.inr (List.mem_append.2 (.inr hr))))
      · subst e
        rcases hr with hr | hr
        · exact (hdis p hr).1 (List.mem_append.2 (.inr (List.mem_append.2 (.inl hp))))
        · exact nd12 p hp p hr rfl
    cases e : v'.ownBlock with
    | none => simpa using hin
    | some h =>
      simp only [Option.toList, List.cons_append, List.nil_append, List.nodup_cons, List.mem_append, not_or]
      exact ⟨⟨(hnew h e).2.1, (hnew h e).2.2.1, (hnew h e).2.2.2.1⟩, hin⟩
  · intro hm
    simp only [List.mem_append, Option.mem_toList] at hm
    rcases hm with hm | hm | hm | hm
    · exact (hnew g hm).1 rfl
    · exact hg1 (List.mem_append.2 (.inl hm))
    · exact (hdis g hm).2 rfl
    · exact hg1 (List.mem_append.2 (.inr hm))
  · intro h hm
    simp only [List.mem_append, Option.mem_toList] at hm ⊢
    rcases hm with hm | hm | hm | hm
    · rcases (hnew h hm).2.2.2.2 with h1 | h1
      · exact .inl (.inl h1)
      · exact .inr (.inr h1)
    · exact .inl (.inr (.inl hm))
    · exact .inr (.inl hm)
    · exact .inl (.inr (.inr hm))
  · exact ⟨cs, _, t, hcs, hset, by simp, fun j hj => by rw [Array.getElem?_setIfInBounds, if_neg (by omega)]⟩
  · intro h hh h1 h2
    simp only [List.mem_append, Option.mem_toList, not_or] at h2
    exact kept h hh h1 h2.1
  · have hb3 : Below base wI w3 := (Below.refl _ _).grown hgr (Nat.le_trans hbs hB.size) (fun b e => (hK.lt b e).1)
    exact ((hB.mono hbs).trans hb3).setCell (p := ⟨g, o + 5, none⟩) hgb _
end Go.Proofs.Ytgipnemcmiohlaa
namespace Go.Proofs.Ytgipnemcmiohlaa
open Go.RowKit
set_option linter.unusedSimpArgs false
set_option linter.unusedVariables false
set_option maxRecDepth 100000 in
set_option maxHeartbeats 1000000 in
theorem put1_any (a y : NdD) (v vx : Value) (g : Nat) (w : World) (hv : v.oneCell' = true) (hx : vx.oneCell' = true) (hg : Blk w g 27 #[.string (txt y.name), .string (txt y.key), .int .i64 y.kind, .int .u64 (y.num : Int), .string (txt y.text), vx]) :
    Calls Try.prog 47 #[.agg #[.string (txt a.name), .string (txt a.key), .int .i64 a.kind, .int .u64 (a.num : Int), .string (txt a.text), v], .pointer (some ⟨g, 0, none⟩)] w (Ans9 (.bool (lessX y a)) w) := by
  have h1 : Blk (w.alloc (.cells #[.string (txt a.name), .string (txt a.key), .int .i64 a.kind, .int .u64 (a.num : Int), .string (txt a.text), v] 27)) w.heap.size 27 #[.string (txt a.name), .string (txt a.key), .int .i64 a.kind, .int .u64 (a.num : Int), .string (txt a.text), v] := Blk.new _ _ _
  have h2 : Blk (w.alloc (.cells #[.string (txt a.name), .string (txt a.key), .int .i64 a.kind, .int .u64 (a.num : Int), .string (txt a.text), v] 27)) g 27 #[.string (txt y.name), .string (txt y.key), .int .i64 y.kind, .int .u64 (y.num : Int), .string (txt y.text), vx] := hg.alloc _
  have HB : Hid (Below w.heap.size w (w.alloc (.cells #[.string (txt a.name), .string (txt a.key), .int .i64 a.kind, .int .u64 (a.num : Int), .string (txt a.text), v] 27))) := Lib.hid ((Below.refl _ _).alloc (Nat.le_refl _) _)
  have HC : Hid (Calls Try.prog 18 #[.agg #[.string (txt y.name), .string (txt y.key), .int .i64 y.kind, .int .u64 (y.num : Int), .string (txt y.text), vx], .agg #[.string (txt a.name), .string (txt a.key), .int .i64 a.kind, .int .u64 (a.num : Int), .string (txt a.text), v]] (w.alloc (.cells #[.string (txt a.name), .string (txt a.key), .int .i64 a.kind, .int .u64 (a.num : Int), .string (txt a.text), v] 27)) (Ans9 (.bool (lessX y a)) (w.alloc (.cells #[.string (txt a.name), .string (txt a.key), .int .i64 a.kind, .int .u64 (a.num : Int), .string (txt a.text), v] 27)))) := Lib.hid (less_any y a vx v (w.alloc (.cells #[.string (txt a.name), .string (txt a.key), .int .i64 a.kind, .int .u64 (a.num : Int), .string (txt a.text), v] 27)) hx hv)
  have q0 := (h1.cell 0).trans rfl
  have q1 := (h1.cell 1).trans rfl
  have q2 := (h1.cell 2).trans rfl
  have q3 := (h1.cell 3).trans rfl
  have q4 := (h1.cell 4).trans rfl
  have q5 := (h1.cell 5).trans rfl
  have p0 := (h2.cell 0).trans rfl
  have p1 := (h2.cell 1).trans rfl
  have p2 := (h2.cell 2).trans rfl
  have p3 := (h2.cell 3).trans rfl
  have p4 := (h2.cell 4).trans rfl
  have p5 := (h2.cell 5).trans rfl
  clear h1 h2 hg
  go_enter Try.func47, Try.ntmps47
  go_wp2_with fail
  refine HC.out.mono ?_
  rintro r w2 ⟨rfl, hb⟩
  have HB2 := Lib.hid (HB.out.trans (hb.mono HB.out.size))
  clear hb q0 q1 q2 q3 q4 q5 p0 p1 p2 p3 p4 p5
  go_wp2
  go_ret
  exact ⟨rfl, HB2.out⟩
def PutR (base g o : Nat) (x : Nd) (Fy Fx : List Nat) (w : World) (r : Ending) (w' : World) : Prop := r = .returned (.tuple #[]) ∧ ChgN base g o x Fy Fx w w'
theorem ix_le {p : NdD → Bool} : ∀ {f : NdF} {i : Nat}, ixP p f = some i → i ≤ f.len := by
  intro f
  induction f with
  | nil => intro i h; cases h
  | cons a k r _ ih =>
    intro i h
    simp only [ixP] at h
    split at h
    · injection h with h; omega
    · cases hr : ixP p r with
      | none => rw [hr] at h; cases h
      | some j =>
        rw [hr] at h
        simp only [Option.map_some, Option.some.injEq] at h
        have := ih hr
        simp only [Fr.len]
        omega
set_option maxRecDepth 100000 in
set_option maxHeartbeats 4000000 in
theorem put_any (base g o : Nat) (pa y : NdD) (pf yf : NdF) (F0 Fx : List Nat) (zs : List Value) (v : Value) (Ax : Option Addr) (cx : Nat) (w : World)
    (hcl : ∀ j u, (ndC pa v)[j]? = some u → w.cell? ⟨g, o + j, none⟩ = some u) (hK : OwnK 27 6 w base v pf.len zs) (hT : OwnT w base pf zs F0)
    (hnd : (v.ownBlock.toList ++ F0).Nodup) (hg : g ∉ v.ownBlock.toList ++ F0) (hgf : Fresh9 base w g) (hUx : OwnU w base (.slice Ax yf.len cx) yf Fx) (hndx : Fx.Nodup) (hdis : ∀ h, h ∈ Fx → h ∉ v.ownBlock.toList ++ F0 ∧ h ≠ g) (hl : pf.len ≤ 1000000) (hbs : base ≤ w.heap.size) :
    Calls Try.prog 37 #[.pointer (some ⟨g, o, none⟩), .agg #[.string (txt y.name), .string (txt y.key), .int .i64 y.kind, .int .u64 (y.num : Int), .string (txt y.text), .slice Ax yf.len cx]] w (PutR base g o (pa, putF pf (y, yf)) (v.ownBlock.toList ++ F0) Fx w) := by
  have hU : OwnU w base v pf (v.ownBlock.toList ++ F0) := ⟨zs, F0, rfl, hK, hT⟩
  have hrow : RowT w.heap.size w v pf := LieB.row (hU.lies (a := pa))
  have h1 : (Value.slice Ax yf.len cx).oneCell' = true := rfl
  have hone : ∀ u ∈ zs, u.oneCell' = true := (hT.row (S := fun g => g ∈ F0) (fun _ h => h)).oneCell one_na
  have hBX : Below w.heap.size w (w.alloc (.cells #[.string (txt y.name), .string (txt y.key), .int .i64 y.kind, .int .u64 (y.num : Int), .string (txt y.text), .slice Ax yf.len cx] 27)).drew := ((Below.refl _ _).alloc (Nat.le_refl _) _).drew
  have HS0 : Hid ((w.alloc (.cells #[.string (txt y.name), .string (txt y.key), .int .i64 y.kind, .int .u64 (y.num : Int), .string (txt y.text), .slice Ax yf.len cx] 27)).drew.cell? ⟨g, o + 5, none⟩ = some v ∧ Blk (w.alloc (.cells #[.string (txt y.name), .string (txt y.key), .int .i64 y.kind, .int .u64 (y.num : Int), .string (txt y.text), .slice Ax yf.len cx] 27)).drew w.heap.size 27 #[.string (txt y.name), .string (txt y.key), .int .i64 y.kind, .int .u64 (y.num : Int), .string (txt y.text), .slice Ax yf.len cx]) := Lib.hid ⟨(hBX.cell (p := ⟨g, o + 5, none⟩) hgf.lt).trans (hcl 5 v rfl), Blk.new w 27 #[.string (txt y.name), .string (txt y.key), .int .i64 y.kind, .int .u64 (y.num : Int), .string (txt y.text), .slice Ax yf.len cx]⟩
  obtain ⟨A, c, rfl⟩ := hU.shape
  have HF : Hid (∀ W, Below w.heap.size w W → Calls Try.prog 39 #[.slice A pf.len c, .agg #[.string (txt y.name), .string (txt y.key)]] W (Ans9 (.int .i64 (findIx (stp y) pf)) W)) := Lib.hid (fun W hW => find_any (stp y) pf A c W (hrow.under hW (Nat.le_refl _) hW.size) hl)
  have HI : Hid (∀ W, Below w.heap.size w W → Blk W w.heap.size 27 #[.string (txt y.name), .string (txt y.key), .int .i64 y.kind, .int .u64 (y.num : Int), .string (txt y.text), .slice Ax yf.len cx] → Calls Try.prog 46 #[.slice A pf.len c, .func (.func 47) #[] #[.pointer (some ⟨w.heap.size, 0, none⟩)]] W (Ans9 (.int .i64 (ixI (fun a => lessX y a) pf)) W)) := Lib.hid (fun W hW hbx =>
    indexf_any (fun a => lessX y a) 47 #[.pointer (some ⟨w.heap.size, 0, none⟩)] pf A c W (hrow.under hW (Nat.le_refl _) hW.size) hl
      (fun a u W2 hu hW2 => put1_any a y u (.slice Ax yf.len cx) w.heap.size W2 hu h1 (hbx.below hW2 hbx.lt)) (fun _ _ => Go.Proofs.enters_of Try.func47 (by kernel_rfl) rfl _ _))
  have HP1 : Hid (∀ (b i : Nat) (z : Nd) (wq : World), A = some ⟨b, 0, none⟩ → pf.get? i = some z → Below w.heap.size w wq → ChgN base g o (pa, updF i (y, yf) pf) ((Value.slice A pf.len c).ownBlock.toList ++ F0) Fx w (set6o wq b (i * 6) (.string (txt y.name)) (.string (txt y.key)) (.int .i64 y.kind) (.int .u64 (y.num : Int)) (.string (txt y.text)) (.slice Ax yf.len cx))) := Lib.hid (fun b i z wq e hi hB => by
    subst e
    exact put_upd hcl hK hT hnd hg hgf hUx hndx hdis hi hB hbs)
  have HP2 : Hid (∀ (wI w3 : World) (i : Nat) (v' : Value), i ≤ pf.len → Below w.heap.size w wI → OwnK 27 6 w3 base v' (pf.len + 1) (zs.take (i * 6) ++ ndC y (.slice Ax yf.len cx) ++ zs.drop (i * 6)) → wI.grownBy w3 (Value.slice A pf.len c).ownBlock → (v'.ownBlock = (Value.slice A pf.len c).ownBlock ∨ ∃ h, v'.ownBlock = some h ∧ wI.heap.size ≤ h) →
    ChgN base g o (pa, withF pf i 0 (oneF (y, yf))) ((Value.slice A pf.len c).ownBlock.toList ++ F0) Fx w (w3.setCell ⟨g, o + 5, none⟩ v')) := Lib.hid (fun wI w3 i v' hi hB h2 h3 h4 => put_ins (y := (y, yf)) hcl hK hT hnd hg hgf hUx hndx hdis hi hB hbs h2 h3 h4)
  have HIN : Hid (∀ (W : World) (i gx : Nat), Below w.heap.size w W → w.heap.size ≤ gx → Blk W gx 27 #[.string (txt y.name), .string (txt y.key), .int .i64 y.kind, .int .u64 (y.num : Int), .string (txt y.text), .slice Ax yf.len cx] → i ≤ pf.len → Calls Try.prog 48 #[.slice A pf.len c, .int .i64 (i : Int), .slice (some ⟨gx, 0, none⟩) 1 1] W (InsP9 base (.slice A pf.len c) pf.len (zs.take (i * 6) ++ ndC y (.slice Ax yf.len cx) ++ zs.drop (i * 6)) W)) := Lib.hid (fun W i gx hW hgx hbx hi =>
    ins_any (.slice A pf.len c) pf.len i gx base zs (ndC y (.slice Ax yf.len cx)) W (hK.below hW) hone hbx rfl (by
      intro u hu
      simp only [List.mem_cons, List.not_mem_nil, or_false] at hu
      rcases hu with rfl | rfl | rfl | rfl | rfl | rfl <;> first | rfl | exact h1) hl (Nat.le_trans hbs hW.size) (fun e => by have := (hK.lt gx e).2; omega) hi)
  have HGC : Hid (∀ W, Below w.heap.size w W → W.cell? ⟨g, o + 5, none⟩ = some (.slice A pf.len c)) := Lib.hid (fun W hW => (hW.cell (p := ⟨g, o + 5, none⟩) hgf.lt).trans (hcl 5 _ rfl))
  have HGF : Hid (g < w.heap.size ∧ (∀ k, w.frozen? ⟨g, k, none⟩ = false) ∧ (Value.slice A pf.len c).ownBlock ≠ some g ∧ ∀ h, (Value.slice A pf.len c).ownBlock = some h → h < w.heap.size) := Lib.hid ⟨hgf.lt, fun k => by obtain ⟨-, cs, t, h⟩ := hgf; simp [World.frozen?, h], fun e => hg (by rw [e]; simp), fun h e => (hK.lt h e).2⟩
  have HRB : Hid (∀ i, pf.get? i ≠ none → ∃ b, A = some ⟨b, 0, none⟩ ∧ b < w.heap.size ∧ b ≠ g ∧ ∀ W, Below w.heap.size w W → (∀ k, W.frozen? ⟨b, k, none⟩ = false) ∧ ∀ k, k < 6 → ∃ u, W.cell? ⟨b, i * 6 + k, none⟩ = some u) := Lib.hid (fun i hi => by
    cases hgt : pf.get? i with
    | none => exact absurd hgt hi
    | some z =>
      obtain ⟨b, c2, e⟩ := hU.slice_is hgt
      injection e with e1 e2 e3
      subst e1 e3
      obtain ⟨cur, hbk, hnc, hcm, hcs, htk, hbb⟩ := row_is hK
      refine ⟨b, rfl, hbk.lt, fun e => hg (by rw [e]; simp [Value.ownBlock]), fun W hW => ⟨fun k => (hbk.below hW hbk.lt).frozen k, fun k hk => ?_⟩⟩
      have := Fr.get_lt hgt
      exact ⟨cur[i * 6 + k]'(by omega), by rw [(hbk.below hW hbk.lt).cell]; exact Array.getElem?_eq_getElem (by omega)⟩)
  have HL := Lib.hid hl
  have HBX := Lib.hid hBX
  have hbone : (Value.slice Ax yf.len cx).oneCell' = true := h1
  obtain ⟨z, hz⟩ : ∃ z, z = findIx (stp y) pf := ⟨_, rfl⟩
  rw [← hz] at HF
  have HZ := Lib.hid hz
  obtain ⟨zp, hzp⟩ : ∃ z, z = ixI (fun a => lessX y a) pf := ⟨_, rfl⟩
  rw [← hzp] at HI
  have HZP := Lib.hid hzp
  obtain ⟨R, hR⟩ : ∃ R, R = putF pf (y, yf) := ⟨_, rfl⟩
  rw [← hR]
  have HR := Lib.hid hR
  have i3 : (pf.len : Int) ≤ 1000000 := by omega
  clear hcl hK hT hnd hg hgf hUx hndx hdis hl hbs hU hrow h1 hone hBX hz hzp hR
  go_enter Try.func37, Try.ntmps37
  go_wp2_with fail
  refine wp_region_noPanic ?_
  refine wp_region_held_drew (S := fun _ => True) (by kernel_rfl) trivial (fun hS => ?_)
  refine held_more (S' := fun w' => w'.cell? ⟨g, o + 5, none⟩ = some (.slice A pf.len c) ∧ Blk w' w.heap.size 27 #[.string (txt y.name), .string (txt y.key), .int .i64 y.kind, .int .u64 (y.num : Int), .string (txt y.text), .slice Ax yf.len cx]) (fun _ _ => trivial) _ _ _ _ ?_
  replace hS := HS0.out
  refine wpAnyH_take (i := 0) (oi := ?o1_0_1) (v := ?v1_0_1) ?i1_0_1 (by kernel_rfl) (by kernel_rfl) (by kernel_rfl) (fun _ _ _ h => h) (Or.inl ⟨?g1_0_1, ?y1_0_1⟩) hS ?_
  case i1_0_1 => simp only [List.getElem?_toArray, List.getElem?_cons_succ, List.getElem?_cons_zero]; rfl
  case g1_0_1 => rfl
  case y1_0_1 => (intro w hSw; (go_simp <;> with_reducible rfl))
  (try simp only [Act.put, List.setIfInBounds_toArray, List.set_cons_zero, List.set_cons_succ])
  refine wpAnyH_take (i := 1) (oi := ?o1_1_2) (v := ?v1_1_2) ?i1_1_2 (by kernel_rfl) (by kernel_rfl) (by kernel_rfl) (fun _ _ _ h => h) (Or.inl ⟨?g1_1_2, ?y1_1_2⟩) hS ?_
  case i1_1_2 => simp only [List.getElem?_toArray, List.getElem?_cons_succ, List.getElem?_cons_zero]; rfl
  case g1_1_2 => rfl
  case y1_1_2 => (intro w hSw; (go_simp <;> with_reducible rfl))
  (try simp only [Act.put, List.setIfInBounds_toArray, List.set_cons_zero, List.set_cons_succ])
  refine wpAnyH_take (i := 2) (oi := ?o1_2_3) (v := ?v1_2_3) ?i1_2_3 (by kernel_rfl) (by kernel_rfl) (by kernel_rfl) (fun _ _ _ h => h) (Or.inl ⟨?g1_2_3, ?y1_2_3⟩) hS ?_
  case i1_2_3 => simp only [List.getElem?_toArray, List.getElem?_cons_succ, List.getElem?_cons_zero]; rfl
  case g1_2_3 => rfl
  case y1_2_3 => (intro w hSw; (go_simp <;> with_reducible rfl))
  (try simp only [Act.put, List.setIfInBounds_toArray, List.set_cons_zero, List.set_cons_succ])
  refine wpAnyH_take (i := 3) (oi := ?o1_3_4) (v := ?v1_3_4) ?i1_3_4 (by kernel_rfl) (by kernel_rfl) (by kernel_rfl) (fun _ _ _ h => h) (Or.inl ⟨?g1_3_4, ?y1_3_4⟩) hS ?_
  case i1_3_4 => simp only [List.getElem?_toArray, List.getElem?_cons_succ, List.getElem?_cons_zero]; rfl
  case g1_3_4 => rfl
  case y1_3_4 => (intro w hSw; have q5 := hSw.1; (go_simp <;> with_reducible rfl))
  (try simp only [Act.put, List.setIfInBounds_toArray, List.set_cons_zero, List.set_cons_succ])
  refine wpAnyH_take (i := 4) (oi := ?o1_4_5) (v := ?v1_4_5) ?i1_4_5 (by kernel_rfl) (by kernel_rfl) (by kernel_rfl) (fun _ _ _ h => h) (Or.inl ⟨?g1_4_5, ?y1_4_5⟩) hS ?_
  case i1_4_5 => simp only [List.getElem?_toArray, List.getElem?_cons_succ, List.getElem?_cons_zero]; rfl
  case g1_4_5 => rfl
  case y1_4_5 => (intro w hSw; have q0 := (hSw.2.cell 0).trans rfl; have q1 := (hSw.2.cell 1).trans rfl; have q2 := (hSw.2.cell 2).trans rfl; have q3 := (hSw.2.cell 3).trans rfl; have q4 := (hSw.2.cell 4).trans rfl; have q5 := (hSw.2.cell 5).trans rfl; (go_simp <;> with_reducible rfl))
  (try simp only [Act.put, List.setIfInBounds_toArray, List.set_cons_zero, List.set_cons_succ])
  refine wpAnyH_ready (rs := [5]) (by kernel_rfl) (by simp) ?_
  refine (AllReadyH.cons (o := ?or1_6_5) ?ir1_6_5 (fun K hK => ?str1_6_5) AllReadyH.nil)
  case ir1_6_5 => simp only [List.getElem?_toArray, List.getElem?_cons_succ, List.getElem?_cons_zero]; rfl
  rw [if_pos (by rfl)]
  go_simp
  refine (stepof_any y (.slice Ax yf.len cx) _).mono ?_
  rintro r w5 ⟨rfl, hb5⟩
  have HB5 := Lib.hid (HBX.out.trans (hb5.mono HBX.out.size))
  have HS5 := Lib.hid (And.intro (HGC.out _ HB5.out) (HS0.out.2.below hb5 HS0.out.2.lt))
  clear hb5
  go_wp2_with fail
  refine hK.out _ _ ?sr1_6_5 (fun hS => ?_)
  case sr1_6_5 => (exact HS5.out)
  clear hK K
  (try simp only [Act.put, List.setIfInBounds_toArray, List.set_cons_zero, List.set_cons_succ])
  refine wpAnyH_ready (rs := [6]) (by kernel_rfl) (by simp) ?_
  refine (AllReadyH.cons (o := ?or1_7_6) ?ir1_7_6 (fun K hK => ?str1_7_6) AllReadyH.nil)
  case ir1_7_6 => simp only [List.getElem?_toArray, List.getElem?_cons_succ, List.getElem?_cons_zero]; rfl
  rw [if_pos (by rfl)]
  go_simp
  refine (HF.out _ HB5.out).mono ?_
  rintro r w6 ⟨rfl, hb6⟩
  have HB6 := Lib.hid (HB5.out.trans (hb6.mono HB5.out.size))
  have HS6 := Lib.hid (And.intro (HGC.out _ HB6.out) (HS5.out.2.below hb6 HS5.out.2.lt))
  clear hb6
  go_wp2_with fail
  refine hK.out _ _ ?sr1_7_6 (fun hS => ?_)
  case sr1_7_6 => (exact HS6.out)
  clear hK K
  (try simp only [Act.put, List.setIfInBounds_toArray, List.set_cons_zero, List.set_cons_succ])
  refine wpAnyH_take (i := 7) (oi := ?o1_7_8) (v := ?v1_7_8) ?i1_7_8 (by kernel_rfl) (by kernel_rfl) (by kernel_rfl) (fun _ _ _ h => h) (Or.inl ⟨?g1_7_8, ?y1_7_8⟩) hS ?_
  case i1_7_8 => simp only [List.getElem?_toArray, List.getElem?_cons_succ, List.getElem?_cons_zero]; rfl
  case g1_7_8 => rfl
  case y1_7_8 => (intro w hSw; (go_simp <;> with_reducible rfl))
  (try simp only [Act.put, List.setIfInBounds_toArray, List.set_cons_zero, List.set_cons_succ])
  refine wpAnyH_done (by kernel_rfl) ?_ _
  refine NoPanic.normal ?_
  clear hS
  cases hfi : findN (stp y) pf with
  | some i =>
    obtain ⟨⟨ka, kf⟩, hgt, -, -⟩ := find_stp hfi
    have hz2 : z = (i : Int) := by rw [HZ.out]; unfold findIx; rw [hfi]
    obtain ⟨b, rfl, hbl, hbg, hrb⟩ := HRB.out i (by rw [hgt]; simp)
    have hi := Fr.get_lt hgt
    obtain ⟨hfz, hfc⟩ := hrb w6.drew HB6.out.drew
    have HFZ := Lib.hid (And.intro hfz hfc)
    have HEND := Lib.hid (HP1.out b i (ka, kf) w6.drew rfl hgt HB6.out.drew)
    have HRR : Hid (R = updF i (y, yf) pf) := Lib.hid (by rw [HR.out]; unfold putF; rw [hfi])
    have HSD : Hid (w6.drew.cell? ⟨g, o + 5, none⟩ = some (.slice (some ⟨b, 0, none⟩) pf.len c) ∧ Blk w6.drew w.heap.size 27 #[.string (txt y.name), .string (txt y.key), .int .i64 y.kind, .int .u64 (y.num : Int), .string (txt y.text), .slice Ax yf.len cx]) := Lib.hid ⟨HS6.out.1, HS6.out.2.below (Below.refl _ _).drew HS6.out.2.lt⟩
    have j1 : (0 : Int) ≤ (i : Int) := by omega
    have j2 : (i : Int) < (pf.len : Int) := by omega
    have j3 : decide ((i : Int) ≥ 0) = true := decide_eq_true (by omega)
    have HBL := Lib.hid (And.intro hbl hbg)
    have HGL : Hid (g < w.heap.size) := Lib.hid HGF.out.1
    subst hz2
    clear hfi hgt hbl hbg hrb hi hfz hfc
    go_wp2_with fail
    refine wp_region_noPanic ?_
    refine wp_region_held_drew (S := fun _ => True) (by kernel_rfl) trivial (fun hS => ?_)
    refine held_more (S' := fun w' => w'.cell? ⟨g, o + 5, none⟩ = some (.slice (some ⟨b, 0, none⟩) pf.len c) ∧ Blk w' w.heap.size 27 #[.string (txt y.name), .string (txt y.key), .int .i64 y.kind, .int .u64 (y.num : Int), .string (txt y.text), .slice Ax yf.len cx]) (fun _ _ => trivial) _ _ _ _ ?_
    generalize w6.drew = wq at HSD HFZ HEND ⊢
    replace hS := HSD.out
    refine wpAnyH_take (i := 0) (oi := ?o2_0_1) (v := ?v2_0_1) ?i2_0_1 (by kernel_rfl) (by kernel_rfl) (by kernel_rfl) (fun _ _ _ h => h) (Or.inl ⟨?g2_0_1, ?y2_0_1⟩) hS ?_
    case i2_0_1 => simp only [List.getElem?_toArray, List.getElem?_cons_succ, List.getElem?_cons_zero]; rfl
    case g2_0_1 => rfl
    case y2_0_1 => (intro w hSw; (go_simp <;> with_reducible rfl))
    (try simp only [Act.put, List.setIfInBounds_toArray, List.set_cons_zero, List.set_cons_succ])
    refine wpAnyH_take (i := 1) (oi := ?o2_1_2) (v := ?v2_1_2) ?i2_1_2 (by kernel_rfl) (by kernel_rfl) (by kernel_rfl) (fun _ _ _ h => h) (Or.inl ⟨?g2_1_2, ?y2_1_2⟩) hS ?_
    case i2_1_2 => simp only [List.getElem?_toArray, List.getElem?_cons_succ, List.getElem?_cons_zero]; rfl
    case g2_1_2 => rfl
    case y2_1_2 => (intro w hSw; (go_simp <;> with_reducible rfl))
    (try simp only [Act.put, List.setIfInBounds_toArray, List.set_cons_zero, List.set_cons_succ])
    refine wpAnyH_take (i := 2) (oi := ?o2_2_3) (v := ?v2_2_3) ?i2_2_3 (by kernel_rfl) (by kernel_rfl) (by kernel_rfl) (fun _ _ _ h => h) (Or.inl ⟨?g2_2_3, ?y2_2_3⟩) hS ?_
    case i2_2_3 => simp only [List.getElem?_toArray, List.getElem?_cons_succ, List.getElem?_cons_zero]; rfl
    case g2_2_3 => rfl
    case y2_2_3 => (intro w hSw; (go_simp <;> with_reducible rfl))
    (try simp only [Act.put, List.setIfInBounds_toArray, List.set_cons_zero, List.set_cons_succ])
    refine wpAnyH_take (i := 3) (oi := ?o2_3_4) (v := ?v2_3_4) ?i2_3_4 (by kernel_rfl) (by kernel_rfl) (by kernel_rfl) (fun _ _ _ h => h) (Or.inl ⟨?g2_3_4, ?y2_3_4⟩) hS ?_
    case i2_3_4 => simp only [List.getElem?_toArray, List.getElem?_cons_succ, List.getElem?_cons_zero]; rfl
    case g2_3_4 => rfl
    case y2_3_4 => (intro w hSw; have q5 := hSw.1; (go_simp <;> with_reducible rfl))
    (try simp only [Act.put, List.setIfInBounds_toArray, List.set_cons_zero, List.set_cons_succ])
    refine wpAnyH_take (i := 4) (oi := ?o2_4_5) (v := ?v2_4_5) ?i2_4_5 (by kernel_rfl) (by kernel_rfl) (by kernel_rfl) (fun _ _ _ h => h) (Or.inl ⟨?g2_4_5, ?y2_4_5⟩) hS ?_
    case i2_4_5 => simp only [List.getElem?_toArray, List.getElem?_cons_succ, List.getElem?_cons_zero]; rfl
    case g2_4_5 => rfl
    case y2_4_5 => (intro w hSw; (go_simp <;> with_reducible rfl))
    (try simp only [Act.put, List.setIfInBounds_toArray, List.set_cons_zero, List.set_cons_succ])
    refine wpAnyH_take (i := 5) (oi := ?o2_5_6) (v := ?v2_5_6) ?i2_5_6 (by kernel_rfl) (by kernel_rfl) (by kernel_rfl) (fun _ _ _ h => h) (Or.inl ⟨?g2_5_6, ?y2_5_6⟩) hS ?_
    case i2_5_6 => simp only [List.getElem?_toArray, List.getElem?_cons_succ, List.getElem?_cons_zero]; rfl
    case g2_5_6 => rfl
    case y2_5_6 => (intro w hSw; have q0 := (hSw.2.cell 0).trans rfl; have q1 := (hSw.2.cell 1).trans rfl; have q2 := (hSw.2.cell 2).trans rfl; have q3 := (hSw.2.cell 3).trans rfl; have q4 := (hSw.2.cell 4).trans rfl; have q5 := (hSw.2.cell 5).trans rfl; (go_simp <;> with_reducible rfl))
    (try simp only [Act.put, List.setIfInBounds_toArray, List.set_cons_zero, List.set_cons_succ])
    refine wpAnyH_take (i := 6) (oi := ?o2_6_7) (v := ?v2_6_7) ?i2_6_7 (by kernel_rfl) (by kernel_rfl) (by kernel_rfl) (fun _ _ _ h => h) (Or.inl ⟨?g2_6_7, ?y2_6_7⟩) hS ?_
    case i2_6_7 => simp only [List.getElem?_toArray, List.getElem?_cons_succ, List.getElem?_cons_zero]; rfl
    case g2_6_7 => rfl
    case y2_6_7 => (intro w hSw; (go_simp <;> with_reducible rfl))
    (try simp only [Act.put, List.setIfInBounds_toArray, List.set_cons_zero, List.set_cons_succ])
    refine wpAnyH_ready (rs := [7]) (by kernel_rfl) (by simp) ?_
    refine (AllReadyH.cons (o := ?or2_8_7) ?ir2_8_7 (fun K hK => ?str2_8_7) AllReadyH.nil)
    case ir2_8_7 => simp only [List.getElem?_toArray, List.getElem?_cons_succ, List.getElem?_cons_zero]; rfl
    rw [if_pos (by rfl)]
    have fz0 : (wq).frozen? ⟨b, i * 6, none⟩ = false := HFZ.out.1 _
    obtain ⟨e0, fq0⟩ := HFZ.out.2 0 (by omega)
    have fz1 : (wq).frozen? ⟨b, i * 6 + 1, none⟩ = false := HFZ.out.1 _
    obtain ⟨e1, fq1⟩ := HFZ.out.2 1 (by omega)
    have fz2 : (wq).frozen? ⟨b, i * 6 + 2, none⟩ = false := HFZ.out.1 _
    obtain ⟨e2, fq2⟩ := HFZ.out.2 2 (by omega)
    have fz3 : (wq).frozen? ⟨b, i * 6 + 3, none⟩ = false := HFZ.out.1 _
    obtain ⟨e3, fq3⟩ := HFZ.out.2 3 (by omega)
    have fz4 : (wq).frozen? ⟨b, i * 6 + 4, none⟩ = false := HFZ.out.1 _
    obtain ⟨e4, fq4⟩ := HFZ.out.2 4 (by omega)
    have fz5 : (wq).frozen? ⟨b, i * 6 + 5, none⟩ = false := HFZ.out.1 _
    obtain ⟨e5, fq5⟩ := HFZ.out.2 5 (by omega)
    simp only [Nat.add_zero] at fq0
    go_simp
    refine hK.out _ _ ?sr2_8_7 (fun hS => ?_)
    case sr2_8_7 => (exact ⟨(World.cell?_of_block (w := wq) (a := ⟨g, o + 5, none⟩) (set6o_other (w := wq) (b := b) (fun e => HBL.out.2 e.symm))).trans HSD.out.1, (set6o_other (w := wq) (b := b) (by have := HBL.out.1; omega)).trans HSD.out.2⟩)
    clear hK K
    (try simp only [Act.put, List.setIfInBounds_toArray, List.set_cons_zero, List.set_cons_succ])
    refine wpAnyH_done (by kernel_rfl) ?_ _
    refine NoPanic.normal ?_
    clear hS
    go_wp2
    go_end0
    exact ⟨rfl, by rw [HRR.out]; exact HEND.out⟩
  | none =>
    have hz2 : z = -1 := by rw [HZ.out]; unfold findIx; rw [hfi]
    have HRR : Hid (∀ i, (ixP (fun a => lessX y a) pf = some i ∨ (ixP (fun a => lessX y a) pf = none ∧ i = pf.len)) → R = withF pf i 0 (oneF (y, yf))) := Lib.hid (fun i hi => by
      rw [HR.out]
      unfold putF
      rw [hfi]
      simp only
      rcases hi with h | ⟨h, rfl⟩ <;> rw [h])
    have q5 : w6.cell? ⟨g, o + 5, none⟩ = some (.slice A pf.len c) := HS6.out.1
    have HIX := Lib.hid (HI.out w6 HB6.out HS6.out.2)
    subst hz2
    clear hfi
    go_wp2_with fail
    refine HIX.out.mono ?_
    rintro r w7 ⟨rfl, hb7⟩
    have HB7 := Lib.hid (HB6.out.trans (hb7.mono HB6.out.size))
    have HS7 := Lib.hid (And.intro (HGC.out _ HB7.out) (HS6.out.2.below hb7 HS6.out.2.lt))
    clear hb7 q5
    cases hix : ixP (fun a => lessX y a) pf with
    | some i =>
      have hz3 : zp = (i : Int) := by rw [HZP.out]; unfold ixI; rw [hix]
      have hil : i ≤ pf.len := ix_le hix
      have HRW : Hid (R = withF pf i 0 (oneF (y, yf))) := Lib.hid (HRR.out i (.inl hix))
      have j1 : (0 : Int) ≤ (i : Int) := by omega
      have j2 : decide ((i : Int) < 0) = false := decide_eq_false (by omega)
      have j4 : ¬ (i : Int) < 0 := by omega
      subst hz3
      clear hix
      go_wp2_with fail
      have HSI : Hid (Blk w7.drew w.heap.size 27 #[.string (txt y.name), .string (txt y.key), .int .i64 y.kind, .int .u64 (y.num : Int), .string (txt y.text), .slice Ax yf.len cx]) := Lib.hid (HS7.out.2.below (Below.refl _ _).drew HS7.out.2.lt)
      have HBI : Hid (Below w.heap.size w (w7.alloc (.cells #[.string (txt y.name), .string (txt y.key), .int .i64 y.kind, .int .u64 (y.num : Int), .string (txt y.text), .slice Ax yf.len cx] 27)).drew) := Lib.hid ((HB7.out.alloc HB7.out.size _).drew)
      have HNI : Hid (Blk (w7.alloc (.cells #[.string (txt y.name), .string (txt y.key), .int .i64 y.kind, .int .u64 (y.num : Int), .string (txt y.text), .slice Ax yf.len cx] 27)).drew w7.heap.size 27 #[.string (txt y.name), .string (txt y.key), .int .i64 y.kind, .int .u64 (y.num : Int), .string (txt y.text), .slice Ax yf.len cx]) := Lib.hid (Blk.new w7 27 #[.string (txt y.name), .string (txt y.key), .int .i64 y.kind, .int .u64 (y.num : Int), .string (txt y.text), .slice Ax yf.len cx])
      have HCI : Hid (Calls Try.prog 48 #[.slice A pf.len c, .int .i64 (i : Int), .slice (some ⟨w7.heap.size, 0, none⟩) 1 1] (w7.alloc (.cells #[.string (txt y.name), .string (txt y.key), .int .i64 y.kind, .int .u64 (y.num : Int), .string (txt y.text), .slice Ax yf.len cx] 27)).drew (InsP9 base (.slice A pf.len c) pf.len (zs.take (i * 6) ++ ndC y (.slice Ax yf.len cx) ++ zs.drop (i * 6)) (w7.alloc (.cells #[.string (txt y.name), .string (txt y.key), .int .i64 y.kind, .int .u64 (y.num : Int), .string (txt y.text), .slice Ax yf.len cx] 27)).drew)) := Lib.hid (HIN.out (w7.alloc (.cells #[.string (txt y.name), .string (txt y.key), .int .i64 y.kind, .int .u64 (y.num : Int), .string (txt y.text), .slice Ax yf.len cx] 27)).drew i w7.heap.size HBI.out HB7.out.size HNI.out hil)
      refine wp_region_noPanic ?_
      refine wp_region_held_drew (S := fun _ => True) (by kernel_rfl) trivial (fun hS => ?_)
      refine held_more (S' := fun w' => Blk w' w.heap.size 27 #[.string (txt y.name), .string (txt y.key), .int .i64 y.kind, .int .u64 (y.num : Int), .string (txt y.text), .slice Ax yf.len cx]) (fun _ _ => trivial) _ _ _ _ ?_
      replace hS := HSI.out
      refine wpAnyH_take (i := 0) (oi := ?o3_0_1) (v := ?v3_0_1) ?i3_0_1 (by kernel_rfl) (by kernel_rfl) (by kernel_rfl) (fun _ _ _ h => h) (Or.inl ⟨?g3_0_1, ?y3_0_1⟩) hS ?_
      case i3_0_1 => simp only [List.getElem?_toArray, List.getElem?_cons_succ, List.getElem?_cons_zero]; rfl
      case g3_0_1 => rfl
      case y3_0_1 => (intro w hSw; (go_simp <;> with_reducible rfl))
      (try simp only [Act.put, List.setIfInBounds_toArray, List.set_cons_zero, List.set_cons_succ])
      refine wpAnyH_take (i := 1) (oi := ?o3_1_2) (v := ?v3_1_2) ?i3_1_2 (by kernel_rfl) (by kernel_rfl) (by kernel_rfl) (fun _ _ _ h => h) (Or.inl ⟨?g3_1_2, ?y3_1_2⟩) hS ?_
      case i3_1_2 => simp only [List.getElem?_toArray, List.getElem?_cons_succ, List.getElem?_cons_zero]; rfl
      case g3_1_2 => rfl
      case y3_1_2 => (intro w hSw; (go_simp <;> with_reducible rfl))
      (try simp only [Act.put, List.setIfInBounds_toArray, List.set_cons_zero, List.set_cons_succ])
      refine wpAnyH_take (i := 2) (oi := ?o3_2_3) (v := ?v3_2_3) ?i3_2_3 (by kernel_rfl) (by kernel_rfl) (by kernel_rfl) (fun _ _ _ h => h) (Or.inl ⟨?g3_2_3, ?y3_2_3⟩) hS ?_
      case i3_2_3 => simp only [List.getElem?_toArray, List.getElem?_cons_succ, List.getElem?_cons_zero]; rfl
      case g3_2_3 => rfl
      case y3_2_3 => (intro w hSw; (go_simp <;> with_reducible rfl))
      (try simp only [Act.put, List.setIfInBounds_toArray, List.set_cons_zero, List.set_cons_succ])
      refine wpAnyH_take (i := 3) (oi := ?o3_3_4) (v := ?v3_3_4) ?i3_3_4 (by kernel_rfl) (by kernel_rfl) (by kernel_rfl) (fun _ _ _ h => h) (Or.inl ⟨?g3_3_4, ?y3_3_4⟩) hS ?_
      case i3_3_4 => simp only [List.getElem?_toArray, List.getElem?_cons_succ, List.getElem?_cons_zero]; rfl
      case g3_3_4 => rfl
      case y3_3_4 => (intro w hSw; (go_simp <;> with_reducible rfl))
      (try simp only [Act.put, List.setIfInBounds_toArray, List.set_cons_zero, List.set_cons_succ])
      refine wpAnyH_take (i := 5) (oi := ?o3_5_5) (v := ?v3_5_5) ?i3_5_5 (by kernel_rfl) (by kernel_rfl) (by kernel_rfl) (fun _ _ _ h => h) (Or.inl ⟨?g3_5_5, ?y3_5_5⟩) hS ?_
      case i3_5_5 => simp only [List.getElem?_toArray, List.getElem?_cons_succ, List.getElem?_cons_zero]; rfl
      case g3_5_5 => rfl
      case y3_5_5 => (intro w hSw; (go_simp <;> with_reducible rfl))
      (try simp only [Act.put, List.setIfInBounds_toArray, List.set_cons_zero, List.set_cons_succ])
      refine wpAnyH_take (i := 6) (oi := ?o3_6_6) (v := ?v3_6_6) ?i3_6_6 (by kernel_rfl) (by kernel_rfl) (by kernel_rfl) (fun _ _ _ h => h) (Or.inl ⟨?g3_6_6, ?y3_6_6⟩) hS ?_
      case i3_6_6 => simp only [List.getElem?_toArray, List.getElem?_cons_succ, List.getElem?_cons_zero]; rfl
      case g3_6_6 => rfl
      case y3_6_6 => (intro w hSw; have q0 := (hSw.cell 0).trans rfl; have q1 := (hSw.cell 1).trans rfl; have q2 := (hSw.cell 2).trans rfl; have q3 := (hSw.cell 3).trans rfl; have q4 := (hSw.cell 4).trans rfl; have q5 := (hSw.cell 5).trans rfl; (go_simp <;> with_reducible rfl))
      (try simp only [Act.put, List.setIfInBounds_toArray, List.set_cons_zero, List.set_cons_succ])
      refine wpAnyH_ready (rs := [4, 7]) (by kernel_rfl) (by simp) ?_
      refine (AllReadyH.cons (o := ?or3_7_4) ?ir3_7_4 (fun K hK => ?str3_7_4) (AllReadyH.cons (o := ?or3_7_7) ?ir3_7_7 (fun K hK => ?str3_7_7) AllReadyH.nil))
      case ir3_7_4 => simp only [List.getElem?_toArray, List.getElem?_cons_succ, List.getElem?_cons_zero]; rfl
      case ir3_7_7 => simp only [List.getElem?_toArray, List.getElem?_cons_succ, List.getElem?_cons_zero]; rfl
      case' str3_7_4 =>
        rw [if_pos (by rfl)]
        have q5 : w7.cell? ⟨g, o + 5, none⟩ = some (.slice A pf.len c) := HGC.out _ HB7.out
        have q6 : (w7.alloc (.cells #[.string (txt y.name), .string (txt y.key), .int .i64 y.kind, .int .u64 (y.num : Int), .string (txt y.text), .slice Ax yf.len cx] 27)).cell? ⟨g, o + 5, none⟩ = some (.slice A pf.len c) := (HGC.out _ HBI.out : ((w7.alloc (.cells #[.string (txt y.name), .string (txt y.key), .int .i64 y.kind, .int .u64 (y.num : Int), .string (txt y.text), .slice Ax yf.len cx] 27)).drew).cell? ⟨g, o + 5, none⟩ = _)
        go_simp
        refine hK.out _ _ ?sr3_7_4 (fun hS => ?_)
        case sr3_7_4 => (exact hS)
        clear hK K
        (try simp only [Act.put, List.setIfInBounds_toArray, List.set_cons_zero, List.set_cons_succ])
        refine wpAnyH_ready (rs := [7]) (by kernel_rfl) (by simp) ?_
        refine (AllReadyH.cons (o := ?or3_8_7) ?ir3_8_7 (fun K hK => ?str3_8_7) AllReadyH.nil)
        case ir3_8_7 => simp only [List.getElem?_toArray, List.getElem?_cons_succ, List.getElem?_cons_zero]; rfl
        rw [if_pos (by rfl)]
        go_simp
        refine hK.out _ _ ?sr3_8_7 (fun hS => ?_)
        case sr3_8_7 => (exact HSI.out.alloc _)
        clear hK K
        (try simp only [Act.put, List.setIfInBounds_toArray, List.set_cons_zero, List.set_cons_succ])
        refine wpAnyH_ready (rs := [8]) (by kernel_rfl) (by simp) ?_
        refine (AllReadyH.cons (o := ?or3_9_8) ?ir3_9_8 (fun K hK => ?str3_9_8) AllReadyH.nil)
        case ir3_9_8 => simp only [List.getElem?_toArray, List.getElem?_cons_succ, List.getElem?_cons_zero]; rfl
        rw [if_pos (by rfl)]
        go_simp
        refine HCI.out.mono ?_
        rintro r w8 ⟨v', rfl, k1, k2, k3⟩
        obtain ⟨A8, c8, rfl⟩ := k1.shape
        have HG8 : Hid (w8.heap[g]? = w.heap[g]?) := Lib.hid ((k2.block g (Nat.lt_of_lt_of_le HGF.out.1 HBI.out.size) (fun e => HGF.out.2.2.1 e.symm)).trans (HBI.out.block g HGF.out.1))
        have HS8 : Hid (Blk w8 w.heap.size 27 #[.string (txt y.name), .string (txt y.key), .int .i64 y.kind, .int .u64 (y.num : Int), .string (txt y.text), .slice Ax yf.len cx]) := Lib.hid ((k2.block w.heap.size (HSI.out.alloc _).lt (fun e => by have := HGF.out.2.2.2 _ e.symm; omega)).trans (HSI.out.alloc (.cells #[.string (txt y.name), .string (txt y.key), .int .i64 y.kind, .int .u64 (y.num : Int), .string (txt y.text), .slice Ax yf.len cx] 27)))
        have HEND := Lib.hid (HP2.out (w7.alloc (.cells #[.string (txt y.name), .string (txt y.key), .int .i64 y.kind, .int .u64 (y.num : Int), .string (txt y.text), .slice Ax yf.len cx] 27)).drew w8 i _ hil HBI.out k1 k2 k3)
        clear k1 k2 k3
        go_wp2_with fail
        refine hK.out _ _ ?sr3_9_8 (fun hS => ?_)
        case sr3_9_8 => (exact HS8.out)
        clear hK K
        (try simp only [Act.put, List.setIfInBounds_toArray, List.set_cons_zero, List.set_cons_succ])
        refine wpAnyH_take (i := 9) (oi := ?o3_9_10) (v := ?v3_9_10) ?i3_9_10 (by kernel_rfl) (by kernel_rfl) (by kernel_rfl) (fun _ _ _ h => h) (Or.inl ⟨?g3_9_10, ?y3_9_10⟩) hS ?_
        case i3_9_10 => simp only [List.getElem?_toArray, List.getElem?_cons_succ, List.getElem?_cons_zero]; rfl
        case g3_9_10 => rfl
        case y3_9_10 => (intro w hSw; (go_simp <;> with_reducible rfl))
        (try simp only [Act.put, List.setIfInBounds_toArray, List.set_cons_zero, List.set_cons_succ])
        refine wpAnyH_take (i := 10) (oi := ?o3_10_11) (v := ?v3_10_11) ?i3_10_11 (by kernel_rfl) (by kernel_rfl) (by kernel_rfl) (fun _ _ _ h => h) (Or.inl ⟨?g3_10_11, ?y3_10_11⟩) hS ?_
        case i3_10_11 => simp only [List.getElem?_toArray, List.getElem?_cons_succ, List.getElem?_cons_zero]; rfl
        case g3_10_11 => rfl
        case y3_10_11 => (intro w hSw; (go_simp <;> with_reducible rfl))
        (try simp only [Act.put, List.setIfInBounds_toArray, List.set_cons_zero, List.set_cons_succ])
        refine wpAnyH_ready (rs := [11]) (by kernel_rfl) (by simp) ?_
        refine (AllReadyH.cons (o := ?or3_12_11) ?ir3_12_11 (fun K hK => ?str3_12_11) AllReadyH.nil)
        case ir3_12_11 => simp only [List.getElem?_toArray, List.getElem?_cons_succ, List.getElem?_cons_zero]; rfl
        rw [if_pos (by rfl)]
        have fz5 : w8.frozen? ⟨g, o + 5, none⟩ = false := (World.frozen?_of_block (w := w) (a := ⟨g, o + 5, none⟩) HG8.out).trans (HGF.out.2.1 _)
        have fq5 : w8.cell? ⟨g, o + 5, none⟩ = some (.slice A pf.len c) := (World.cell?_of_block (w := w) (a := ⟨g, o + 5, none⟩) HG8.out).trans (HGC.out w (Below.refl _ _))
        go_simp
        refine hK.out _ _ ?sr3_12_11 (fun hS => ?_)
        case sr3_12_11 => (exact HS8.out.far (p := ⟨g, o + 5, none⟩) (by have := HGF.out.1; show w.heap.size ≠ g; omega) _)
        clear hK K
        (try simp only [Act.put, List.setIfInBounds_toArray, List.set_cons_zero, List.set_cons_succ])
        refine wpAnyH_done (by kernel_rfl) ?_ _
        refine NoPanic.normal ?_
      case' str3_7_7 =>
        rw [if_pos (by rfl)]
        go_simp
        refine hK.out _ _ ?sr3_7_7 (fun hS => ?_)
        case sr3_7_7 => (exact HSI.out.alloc _)
        clear hK K
        (try simp only [Act.put, List.setIfInBounds_toArray, List.set_cons_zero, List.set_cons_succ])
        refine wpAnyH_ready (rs := [4]) (by kernel_rfl) (by simp) ?_
        refine (AllReadyH.cons (o := ?or3_13_4) ?ir3_13_4 (fun K hK => ?str3_13_4) AllReadyH.nil)
        case ir3_13_4 => simp only [List.getElem?_toArray, List.getElem?_cons_succ, List.getElem?_cons_zero]; rfl
        rw [if_pos (by rfl)]
        have q5 : w7.cell? ⟨g, o + 5, none⟩ = some (.slice A pf.len c) := HGC.out _ HB7.out
        have q6 : (w7.alloc (.cells #[.string (txt y.name), .string (txt y.key), .int .i64 y.kind, .int .u64 (y.num : Int), .string (txt y.text), .slice Ax yf.len cx] 27)).cell? ⟨g, o + 5, none⟩ = some (.slice A pf.len c) := (HGC.out _ HBI.out : ((w7.alloc (.cells #[.string (txt y.name), .string (txt y.key), .int .i64 y.kind, .int .u64 (y.num : Int), .string (txt y.text), .slice Ax yf.len cx] 27)).drew).cell? ⟨g, o + 5, none⟩ = _)
        go_simp
        refine hK.out _ _ ?sr3_13_4 (fun hS => ?_)
        case sr3_13_4 => (exact hS)
        clear hK K
        (try simp only [Act.put, List.setIfInBounds_toArray, List.set_cons_zero, List.set_cons_succ])
        refine wpAnyH_ready (rs := [8]) (by kernel_rfl) (by simp) ?_
        refine (AllReadyH.cons (o := ?or3_14_8) ?ir3_14_8 (fun K hK => ?str3_14_8) AllReadyH.nil)
        case ir3_14_8 => simp only [List.getElem?_toArray, List.getElem?_cons_succ, List.getElem?_cons_zero]; rfl
        rw [if_pos (by rfl)]
        go_simp
        refine HCI.out.mono ?_
        rintro r w8 ⟨v', rfl, k1, k2, k3⟩
        obtain ⟨A8, c8, rfl⟩ := k1.shape
        have HG8 : Hid (w8.heap[g]? = w.heap[g]?) := Lib.hid ((k2.block g (Nat.lt_of_lt_of_le HGF.out.1 HBI.out.size) (fun e => HGF.out.2.2.1 e.symm)).trans (HBI.out.block g HGF.out.1))
        have HS8 : Hid (Blk w8 w.heap.size 27 #[.string (txt y.name), .string (txt y.key), .int .i64 y.kind, .int .u64 (y.num : Int), .string (txt y.text), .slice Ax yf.len cx]) := Lib.hid ((k2.block w.heap.size (HSI.out.alloc _).lt (fun e => by have := HGF.out.2.2.2 _ e.symm; omega)).trans (HSI.out.alloc (.cells #[.string (txt y.name), .string (txt y.key), .int .i64 y.kind, .int .u64 (y.num : Int), .string (txt y.text), .slice Ax yf.len cx] 27)))
        have HEND := Lib.hid (HP2.out (w7.alloc (.cells #[.string (txt y.name), .string (txt y.key), .int .i64 y.kind, .int .u64 (y.num : Int), .string (txt y.text), .slice Ax yf.len cx] 27)).drew w8 i _ hil HBI.out k1 k2 k3)
        clear k1 k2 k3
        go_wp2_with fail
        refine hK.out _ _ ?sr3_14_8 (fun hS => ?_)
        case sr3_14_8 => (exact HS8.out)
        clear hK K
        (try simp only [Act.put, List.setIfInBounds_toArray, List.set_cons_zero, List.set_cons_succ])
        refine wpAnyH_take (i := 9) (oi := ?o3_9_15) (v := ?v3_9_15) ?i3_9_15 (by kernel_rfl) (by kernel_rfl) (by kernel_rfl) (fun _ _ _ h => h) (Or.inl ⟨?g3_9_15, ?y3_9_15⟩) hS ?_
        case i3_9_15 => simp only [List.getElem?_toArray, List.getElem?_cons_succ, List.getElem?_cons_zero]; rfl
        case g3_9_15 => rfl
        case y3_9_15 => (intro w hSw; (go_simp <;> with_reducible rfl))
        (try simp only [Act.put, List.setIfInBounds_toArray, List.set_cons_zero, List.set_cons_succ])
        refine wpAnyH_take (i := 10) (oi := ?o3_10_16) (v := ?v3_10_16) ?i3_10_16 (by kernel_rfl) (by kernel_rfl) (by kernel_rfl) (fun _ _ _ h => h) (Or.inl ⟨?g3_10_16, ?y3_10_16⟩) hS ?_
        case i3_10_16 => simp only [List.getElem?_toArray, List.getElem?_cons_succ, List.getElem?_cons_zero]; rfl
        case g3_10_16 => rfl
        case y3_10_16 => (intro w hSw; (go_simp <;> with_reducible rfl))
        (try simp only [Act.put, List.setIfInBounds_toArray, List.set_cons_zero, List.set_cons_succ])
        refine wpAnyH_ready (rs := [11]) (by kernel_rfl) (by simp) ?_
        refine (AllReadyH.cons (o := ?or3_17_11) ?ir3_17_11 (fun K hK => ?str3_17_11) AllReadyH.nil)
        case ir3_17_11 => simp only [List.getElem?_toArray, List.getElem?_cons_succ, List.getElem?_cons_zero]; rfl
        rw [if_pos (by rfl)]
        have fz5 : w8.frozen? ⟨g, o + 5, none⟩ = false := (World.frozen?_of_block (w := w) (a := ⟨g, o + 5, none⟩) HG8.out).trans (HGF.out.2.1 _)
        have fq5 : w8.cell? ⟨g, o + 5, none⟩ = some (.slice A pf.len c) := (World.cell?_of_block (w := w) (a := ⟨g, o + 5, none⟩) HG8.out).trans (HGC.out w (Below.refl _ _))
        go_simp
        refine hK.out _ _ ?sr3_17_11 (fun hS => ?_)
        case sr3_17_11 => (exact HS8.out.far (p := ⟨g, o + 5, none⟩) (by have := HGF.out.1; show w.heap.size ≠ g; omega) _)
        clear hK K
        (try simp only [Act.put, List.setIfInBounds_toArray, List.set_cons_zero, List.set_cons_succ])
        refine wpAnyH_done (by kernel_rfl) ?_ _
        refine NoPanic.normal ?_
      all_goals clear hS
      all_goals go_wp2
      all_goals go_end0
      all_goals exact ⟨rfl, by rw [HRW.out]; exact HEND.out⟩
    | none =>
      have hz3 : zp = -1 := by rw [HZP.out]; unfold ixI; rw [hix]
      obtain ⟨i, hi⟩ : ∃ i, i = pf.len := ⟨_, rfl⟩
      have hil : i ≤ pf.len := by omega
      have HRW : Hid (R = withF pf i 0 (oneF (y, yf))) := Lib.hid (HRR.out i (.inr ⟨hix, hi⟩))
      have HII := Lib.hid hi
      have q5 : w7.cell? ⟨g, o + 5, none⟩ = some (.slice A pf.len c) := HS7.out.1
      subst hz3
      clear hix hi
      go_wp2_with fail
      rw [show ((pf.len : Nat) : Int) = (i : Int) by rw [HII.out]]
      have HSI : Hid (Blk w7.drew w.heap.size 27 #[.string (txt y.name), .string (txt y.key), .int .i64 y.kind, .int .u64 (y.num : Int), .string (txt y.text), .slice Ax yf.len cx]) := Lib.hid (HS7.out.2.below (Below.refl _ _).drew HS7.out.2.lt)
      have HBI : Hid (Below w.heap.size w (w7.alloc (.cells #[.string (txt y.name), .string (txt y.key), .int .i64 y.kind, .int .u64 (y.num : Int), .string (txt y.text), .slice Ax yf.len cx] 27)).drew) := Lib.hid ((HB7.out.alloc HB7.out.size _).drew)
      have HNI : Hid (Blk (w7.alloc (.cells #[.string (txt y.name), .string (txt y.key), .int .i64 y.kind, .int .u64 (y.num : Int), .string (txt y.text), .slice Ax yf.len cx] 27)).drew w7.heap.size 27 #[.string (txt y.name), .string (txt y.key), .int .i64 y.kind, .int .u64 (y.num : Int), .string (txt y.text), .slice Ax yf.len cx]) := Lib.hid (Blk.new w7 27 #[.string (txt y.name), .string (txt y.key), .int .i64 y.kind, .int .u64 (y.num : Int), .string (txt y.text), .slice Ax yf.len cx])
      have HCI : Hid (Calls Try.prog 48 #[.slice A pf.len c, .int .i64 (i : Int), .slice (some ⟨w7.heap.size, 0, none⟩) 1 1] (w7.alloc (.cells #[.string (txt y.name), .string (txt y.key), .int .i64 y.kind, .int .u64 (y.num : Int), .string (txt y.text), .slice Ax yf.len cx] 27)).drew (InsP9 base (.slice A pf.len c) pf.len (zs.take (i * 6) ++ ndC y (.slice Ax yf.len cx) ++ zs.drop (i * 6)) (w7.alloc (.cells #[.string (txt y.name), .string (txt y.key), .int .i64 y.kind, .int .u64 (y.num : Int), .string (txt y.text), .slice Ax yf.len cx] 27)).drew)) := Lib.hid (HIN.out (w7.alloc (.cells #[.string (txt y.name), .string (txt y.key), .int .i64 y.kind, .int .u64 (y.num : Int), .string (txt y.text), .slice Ax yf.len cx] 27)).drew i w7.heap.size HBI.out HB7.out.size HNI.out hil)
      refine wp_region_noPanic ?_
      refine wp_region_held_drew (S := fun _ => True) (by kernel_rfl) trivial (fun hS => ?_)
      refine held_more (S' := fun w' => Blk w' w.heap.size 27 #[.string (txt y.name), .string (txt y.key), .int .i64 y.kind, .int .u64 (y.num : Int), .string (txt y.text), .slice Ax yf.len cx]) (fun _ _ => trivial) _ _ _ _ ?_
      replace hS := HSI.out
      refine wpAnyH_take (i := 0) (oi := ?o4_0_1) (v := ?v4_0_1) ?i4_0_1 (by kernel_rfl) (by kernel_rfl) (by kernel_rfl) (fun _ _ _ h => h) (Or.inl ⟨?g4_0_1, ?y4_0_1⟩) hS ?_
      case i4_0_1 => simp only [List.getElem?_toArray, List.getElem?_cons_succ, List.getElem?_cons_zero]; rfl
      case g4_0_1 => rfl
      case y4_0_1 => (intro w hSw; (go_simp <;> with_reducible rfl))
      (try simp only [Act.put, List.setIfInBounds_toArray, List.set_cons_zero, List.set_cons_succ])
      refine wpAnyH_take (i := 1) (oi := ?o4_1_2) (v := ?v4_1_2) ?i4_1_2 (by kernel_rfl) (by kernel_rfl) (by kernel_rfl) (fun _ _ _ h => h) (Or.inl ⟨?g4_1_2, ?y4_1_2⟩) hS ?_
      case i4_1_2 => simp only [List.getElem?_toArray, List.getElem?_cons_succ, List.getElem?_cons_zero]; rfl
      case g4_1_2 => rfl
      case y4_1_2 => (intro w hSw; (go_simp <;> with_reducible rfl))
      (try simp only [Act.put, List.setIfInBounds_toArray, List.set_cons_zero, List.set_cons_succ])
      refine wpAnyH_take (i := 2) (oi := ?o4_2_3) (v := ?v4_2_3) ?i4_2_3 (by kernel_rfl) (by kernel_rfl) (by kernel_rfl) (fun _ _ _ h => h) (Or.inl ⟨?g4_2_3, ?y4_2_3⟩) hS ?_
      case i4_2_3 => simp only [List.getElem?_toArray, List.getElem?_cons_succ, List.getElem?_cons_zero]; rfl
      case g4_2_3 => rfl
      case y4_2_3 => (intro w hSw; (go_simp <;> with_reducible rfl))
      (try simp only [Act.put, List.setIfInBounds_toArray, List.set_cons_zero, List.set_cons_succ])
      refine wpAnyH_take (i := 3) (oi := ?o4_3_4) (v := ?v4_3_4) ?i4_3_4 (by kernel_rfl) (by kernel_rfl) (by kernel_rfl) (fun _ _ _ h => h) (Or.inl ⟨?g4_3_4, ?y4_3_4⟩) hS ?_
      case i4_3_4 => simp only [List.getElem?_toArray, List.getElem?_cons_succ, List.getElem?_cons_zero]; rfl
      case g4_3_4 => rfl
      case y4_3_4 => (intro w hSw; (go_simp <;> with_reducible rfl))
      (try simp only [Act.put, List.setIfInBounds_toArray, List.set_cons_zero, List.set_cons_succ])
      refine wpAnyH_take (i := 5) (oi := ?o4_5_5) (v := ?v4_5_5) ?i4_5_5 (by kernel_rfl) (by kernel_rfl) (by kernel_rfl) (fun _ _ _ h => h) (Or.inl ⟨?g4_5_5, ?y4_5_5⟩) hS ?_
      case i4_5_5 => simp only [List.getElem?_toArray, List.getElem?_cons_succ, List.getElem?_cons_zero]; rfl
      case g4_5_5 => rfl
      case y4_5_5 => (intro w hSw; (go_simp <;> with_reducible rfl))
      (try simp only [Act.put, List.setIfInBounds_toArray, List.set_cons_zero, List.set_cons_succ])
      refine wpAnyH_take (i := 6) (oi := ?o4_6_6) (v := ?v4_6_6) ?i4_6_6 (by kernel_rfl) (by kernel_rfl) (by kernel_rfl) (fun _ _ _ h => h) (Or.inl ⟨?g4_6_6, ?y4_6_6⟩) hS ?_
      case i4_6_6 => simp only [List.getElem?_toArray, List.getElem?_cons_succ, List.getElem?_cons_zero]; rfl
      case g4_6_6 => rfl
      case y4_6_6 => (intro w hSw; have q0 := (hSw.cell 0).trans rfl; have q1 := (hSw.cell 1).trans rfl; have q2 := (hSw.cell 2).trans rfl; have q3 := (hSw.cell 3).trans rfl; have q4 := (hSw.cell 4).trans rfl; have q5 := (hSw.cell 5).trans rfl; (go_simp <;> with_reducible rfl))
      (try simp only [Act.put, List.setIfInBounds_toArray, List.set_cons_zero, List.set_cons_succ])
      refine wpAnyH_ready (rs := [4, 7]) (by kernel_rfl) (by simp) ?_
      refine (AllReadyH.cons (o := ?or4_7_4) ?ir4_7_4 (fun K hK => ?str4_7_4) (AllReadyH.cons (o := ?or4_7_7) ?ir4_7_7 (fun K hK => ?str4_7_7) AllReadyH.nil))
      case ir4_7_4 => simp only [List.getElem?_toArray, List.getElem?_cons_succ, List.getElem?_cons_zero]; rfl
      case ir4_7_7 => simp only [List.getElem?_toArray, List.getElem?_cons_succ, List.getElem?_cons_zero]; rfl
      case' str4_7_4 =>
        rw [if_pos (by rfl)]
        have q5 : w7.cell? ⟨g, o + 5, none⟩ = some (.slice A pf.len c) := HGC.out _ HB7.out
        have q6 : (w7.alloc (.cells #[.string (txt y.name), .string (txt y.key), .int .i64 y.kind, .int .u64 (y.num : Int), .string (txt y.text), .slice Ax yf.len cx] 27)).cell? ⟨g, o + 5, none⟩ = some (.slice A pf.len c) := (HGC.out _ HBI.out : ((w7.alloc (.cells #[.string (txt y.name), .string (txt y.key), .int .i64 y.kind, .int .u64 (y.num : Int), .string (txt y.text), .slice Ax yf.len cx] 27)).drew).cell? ⟨g, o + 5, none⟩ = _)
        go_simp
        refine hK.out _ _ ?sr4_7_4 (fun hS => ?_)
        case sr4_7_4 => (exact hS)
        clear hK K
        (try simp only [Act.put, List.setIfInBounds_toArray, List.set_cons_zero, List.set_cons_succ])
        refine wpAnyH_ready (rs := [7]) (by kernel_rfl) (by simp) ?_
        refine (AllReadyH.cons (o := ?or4_8_7) ?ir4_8_7 (fun K hK => ?str4_8_7) AllReadyH.nil)
        case ir4_8_7 => simp only [List.getElem?_toArray, List.getElem?_cons_succ, List.getElem?_cons_zero]; rfl
        rw [if_pos (by rfl)]
        go_simp
        refine hK.out _ _ ?sr4_8_7 (fun hS => ?_)
        case sr4_8_7 => (exact HSI.out.alloc _)
        clear hK K
        (try simp only [Act.put, List.setIfInBounds_toArray, List.set_cons_zero, List.set_cons_succ])
        refine wpAnyH_ready (rs := [8]) (by kernel_rfl) (by simp) ?_
        refine (AllReadyH.cons (o := ?or4_9_8) ?ir4_9_8 (fun K hK => ?str4_9_8) AllReadyH.nil)
        case ir4_9_8 => simp only [List.getElem?_toArray, List.getElem?_cons_succ, List.getElem?_cons_zero]; rfl
        rw [if_pos (by rfl)]
        go_simp
        refine HCI.out.mono ?_
        rintro r w8 ⟨v', rfl, k1, k2, k3⟩
        obtain ⟨A8, c8, rfl⟩ := k1.shape
        have HG8 : Hid (w8.heap[g]? = w.heap[g]?) := Lib.hid ((k2.block g (Nat.lt_of_lt_of_le HGF.out.1 HBI.out.size) (fun e => HGF.out.2.2.1 e.symm)).trans (HBI.out.block g HGF.out.1))
        have HS8 : Hid (Blk w8 w.heap.size 27 #[.string (txt y.name), .string (txt y.key), .int .i64 y.kind, .int .u64 (y.num : Int), .string (txt y.text), .slice Ax yf.len cx]) := Lib.hid ((k2.block w.heap.size (HSI.out.alloc _).lt (fun e => by have := HGF.out.2.2.2 _ e.symm; omega)).trans (HSI.out.alloc (.cells #[.string (txt y.name), .string (txt y.key), .int .i64 y.kind, .int .u64 (y.num : Int), .string (txt y.text), .slice Ax yf.len cx] 27)))
        have HEND := Lib.hid (HP2.out (w7.alloc (.cells #[.string (txt y.name), .string (txt y.key), .int .i64 y.kind, .int .u64 (y.num : Int), .string (txt y.text), .slice Ax yf.len cx] 27)).drew w8 i _ hil HBI.out k1 k2 k3)
        clear k1 k2 k3
        go_wp2_with fail
        refine hK.out _ _ ?sr4_9_8 (fun hS => ?_)
        case sr4_9_8 => (exact HS8.out)
        clear hK K
        (try simp only [Act.put, List.setIfInBounds_toArray, List.set_cons_zero, List.set_cons_succ])
        refine wpAnyH_take (i := 9) (oi := ?o4_9_10) (v := ?v4_9_10) ?i4_9_10 (by kernel_rfl) (by kernel_rfl) (by kernel_rfl) (fun _ _ _ h => h) (Or.inl ⟨?g4_9_10, ?y4_9_10⟩) hS ?_
        case i4_9_10 => simp only [List.getElem?_toArray, List.getElem?_cons_succ, List.getElem?_cons_zero]; rfl
        case g4_9_10 => rfl
        case y4_9_10 => (intro w hSw; (go_simp <;> with_reducible rfl))
        (try simp only [Act.put, List.setIfInBounds_toArray, List.set_cons_zero, List.set_cons_succ])
        refine wpAnyH_take (i := 10) (oi := ?o4_10_11) (v := ?v4_10_11) ?i4_10_11 (by kernel_rfl) (by kernel_rfl) (by kernel_rfl) (fun _ _ _ h => h) (Or.inl ⟨?g4_10_11, ?y4_10_11⟩) hS ?_
        case i4_10_11 => simp only [List.getElem?_toArray, List.getElem?_cons_succ, List.getElem?_cons_zero]; rfl
        case g4_10_11 => rfl
        case y4_10_11 => (intro w hSw; (go_simp <;> with_reducible rfl))
        (try simp only [Act.put, List.setIfInBounds_toArray, List.set_cons_zero, List.set_cons_succ])
        refine wpAnyH_ready (rs := [11]) (by kernel_rfl) (by simp) ?_
        refine (AllReadyH.cons (o := ?or4_12_11) ?ir4_12_11 (fun K hK => ?str4_12_11) AllReadyH.nil)
        case ir4_12_11 => simp only [List.getElem?_toArray, List.getElem?_cons_succ, List.getElem?_cons_zero]; rfl
        rw [if_pos (by rfl)]
        have fz5 : w8.frozen? ⟨g, o + 5, none⟩ = false := (World.frozen?_of_block (w := w) (a := ⟨g, o + 5, none⟩) HG8.out).trans (HGF.out.2.1 _)
        have fq5 : w8.cell? ⟨g, o + 5, none⟩ = some (.slice A pf.len c) := (World.cell?_of_block (w := w) (a := ⟨g, o + 5, none⟩) HG8.out).trans (HGC.out w (Below.refl _ _))
        go_simp
        refine hK.out _ _ ?sr4_12_11 (fun hS => ?_)
        case sr4_12_11 => (exact HS8.out.far (p := ⟨g, o + 5, none⟩) (by have := HGF.out.1; show w.heap.size ≠ g; omega) _)
        clear hK K
        (try simp only [Act.put, List.setIfInBounds_toArray, List.set_cons_zero, List.set_cons_succ])
        refine wpAnyH_done (by kernel_rfl) ?_ _
        refine NoPanic.normal ?_
      case' str4_7_7 =>
        rw [if_pos (by rfl)]
        go_simp
        refine hK.out _ _ ?sr4_7_7 (fun hS => ?_)
        case sr4_7_7 => (exact HSI.out.alloc _)
        clear hK K
        (try simp only [Act.put, List.setIfInBounds_toArray, List.set_cons_zero, List.set_cons_succ])
        refine wpAnyH_ready (rs := [4]) (by kernel_rfl) (by simp) ?_
        refine (AllReadyH.cons (o := ?or4_13_4) ?ir4_13_4 (fun K hK => ?str4_13_4) AllReadyH.nil)
        case ir4_13_4 => simp only [List.getElem?_toArray, List.getElem?_cons_succ, List.getElem?_cons_zero]; rfl
        rw [if_pos (by rfl)]
        have q5 : w7.cell? ⟨g, o + 5, none⟩ = some (.slice A pf.len c) := HGC.out _ HB7.out
        have q6 : (w7.alloc (.cells #[.string (txt y.name), .string (txt y.key), .int .i64 y.kind, .int .u64 (y.num : Int), .string (txt y.text), .slice Ax yf.len cx] 27)).cell? ⟨g, o + 5, none⟩ = some (.slice A pf.len c) := (HGC.out _ HBI.out : ((w7.alloc (.cells #[.string (txt y.name), .string (txt y.key), .int .i64 y.kind, .int .u64 (y.num : Int), .string (txt y.text), .slice Ax yf.len cx] 27)).drew).cell? ⟨g, o + 5, none⟩ = _)
        go_simp
        refine hK.out _ _ ?sr4_13_4 (fun hS => ?_)
        case sr4_13_4 => (exact hS)
        clear hK K
        (try simp only [Act.put, List.setIfInBounds_toArray, List.set_cons_zero, List.set_cons_succ])
        refine wpAnyH_ready (rs := [8]) (by kernel_rfl) (by simp) ?_
        refine (AllReadyH.cons (o := ?or4_14_8) ?ir4_14_8 (fun K hK => ?str4_14_8) AllReadyH.nil)
        case ir4_14_8 => simp only [List.getElem?_toArray, List.getElem?_cons_succ, List.getElem?_cons_zero]; rfl
        rw [if_pos (by rfl)]
        go_simp
        refine HCI.out.mono ?_
        rintro r w8 ⟨v', rfl, k1, k2, k3⟩
        obtain ⟨A8, c8, rfl⟩ := k1.shape
        have HG8 : Hid (w8.heap[g]? = w.heap[g]?) := Lib.hid ((k2.block g (Nat.lt_of_lt_of_le HGF.out.1 HBI.out.size) (fun e => HGF.out.2.2.1 e.symm)).trans (HBI.out.block g HGF.out.1))
        have HS8 : Hid (Blk w8 w.heap.size 27 #[.string (txt y.name), .string (txt y.key), .int .i64 y.kind, .int .u64 (y.num : Int), .string (txt y.text), .slice Ax yf.len cx]) := Lib.hid ((k2.block w.heap.size (HSI.out.alloc _).lt (fun e => by have := HGF.out.2.2.2 _ e.symm; omega)).trans (HSI.out.alloc (.cells #[.string (txt y.name), .string (txt y.key), .int .i64 y.kind, .int .u64 (y.num : Int), .string (txt y.text), .slice Ax yf.len cx] 27)))
        have HEND := Lib.hid (HP2.out (w7.alloc (.cells #[.string (txt y.name), .string (txt y.key), .int .i64 y.kind, .int .u64 (y.num : Int), .string (txt y.text), .slice Ax yf.len cx] 27)).drew w8 i _ hil HBI.out k1 k2 k3)
        clear k1 k2 k3
        go_wp2_with fail
        refine hK.out _ _ ?sr4_14_8 (fun hS => ?_)
        case sr4_14_8 => (exact HS8.out)
        clear hK K
        (try simp only [Act.put, List.setIfInBounds_toArray, List.set_cons_zero, List.set_cons_succ])
        refine wpAnyH_take (i := 9) (oi := ?o4_9_15) (v := ?v4_9_15) ?i4_9_15 (by kernel_rfl) (by kernel_rfl) (by kernel_rfl) (fun _ _ _ h => h) (Or.inl ⟨?g4_9_15, ?y4_9_15⟩) hS ?_
        case i4_9_15 => simp only [List.getElem?_toArray, List.getElem?_cons_succ, List.getElem?_cons_zero]; rfl
        case g4_9_15 => rfl
        case y4_9_15 => (intro w hSw; (go_simp <;> with_reducible rfl))
        (try simp only [Act.put, List.setIfInBounds_toArray, List.set_cons_zero, List.set_cons_succ])
        refine wpAnyH_take (i := 10) (oi := ?o4_10_16) (v := ?v4_10_16) ?i4_10_16 (by kernel_rfl) (by kernel_rfl) (by kernel_rfl) (fun _ _ _ h => h) (Or.inl ⟨?g4_10_16, ?y4_10_16⟩) hS ?_
        case i4_10_16 => simp only [List.getElem?_toArray, List.getElem?_cons_succ, List.getElem?_cons_zero]; rfl
        case g4_10_16 => rfl
        case y4_10_16 => (intro w hSw; (go_simp <;> with_reducible rfl))
        (try simp only [Act.put, List.setIfInBounds_toArray, List.set_cons_zero, List.set_cons_succ])
        refine wpAnyH_ready (rs := [11]) (by kernel_rfl) (by simp) ?_
        refine (AllReadyH.cons (o := ?or4_17_11) ?ir4_17_11 (fun K hK => ?str4_17_11) AllReadyH.nil)
        case ir4_17_11 => simp only [List.getElem?_toArray, List.getElem?_cons_succ, List.getElem?_cons_zero]; rfl
        rw [if_pos (by rfl)]
        have fz5 : w8.frozen? ⟨g, o + 5, none⟩ = false := (World.frozen?_of_block (w := w) (a := ⟨g, o + 5, none⟩) HG8.out).trans (HGF.out.2.1 _)
        have fq5 : w8.cell? ⟨g, o + 5, none⟩ = some (.slice A pf.len c) := (World.cell?_of_block (w := w) (a := ⟨g, o + 5, none⟩) HG8.out).trans (HGC.out w (Below.refl _ _))
        go_simp
        refine hK.out _ _ ?sr4_17_11 (fun hS => ?_)
        case sr4_17_11 => (exact HS8.out.far (p := ⟨g, o + 5, none⟩) (by have := HGF.out.1; show w.heap.size ≠ g; omega) _)
        clear hK K
        (try simp only [Act.put, List.setIfInBounds_toArray, List.set_cons_zero, List.set_cons_succ])
        refine wpAnyH_done (by kernel_rfl) ?_ _
        refine NoPanic.normal ?_
      all_goals clear hS
      all_goals go_wp2
      all_goals go_end0
      all_goals exact ⟨rfl, by rw [HRW.out]; exact HEND.out⟩
end Go.Proofs.Ytgipnemcmiohlaa
namespace Go.Proofs.Ytgipnemcmiohlaa
open Go.RowKit
set_option linter.unusedSimpArgs false
set_option linter.unusedVariables false
theorem ix_some {p : NdD → Bool} : ∀ {f : NdF} {i : Nat}, ixP p f = some i → (∀ j, j < i → ∀ y, f.get? j = some y → p y.1 = false) ∧ ∃ y, f.get? i = some y ∧ p y.1 = true := by
  intro f
  induction f with
  | nil => intro i h; cases h
  | cons a k r _ ih =>
    intro i h
    simp only [ixP] at h
    split at h
    · rename_i hp
      injection h with h
      subst h
      exact ⟨fun j hj => by omega, (a, k), rfl, hp⟩
    · rename_i hp
      cases hr : ixP p r with
      | none => rw [hr] at h; cases h
      | some j =>
        rw [hr] at h
        simp only [Option.map_some, Option.some.injEq] at h
        subst h
        obtain ⟨h1, h2⟩ := ih hr
        refine ⟨fun k hk y hy => ?_, h2⟩
        cases k with
        | zero =>
          injection hy with hy
          subst hy
          simpa using hp
        | succ k => exact h1 k (by omega) y hy
theorem ix_none {p : NdD → Bool} : ∀ {f : NdF}, ixP p f = none → ∀ j y, f.get? j = some y → p y.1 = false := by
  intro f
  induction f with
  | nil => intro _ j y h; cases h
  | cons a k r _ ih =>
    intro h j y hy
    simp only [ixP] at h
    split at h
    · cases h
    · rename_i hp
      cases hr : ixP p r with
      | some i => rw [hr] at h; cases h
      | none =>
        cases j with
        | zero =>
          injection hy with hy
          subst hy
          simpa using hp
        | succ j => exact ih hr j y hy
theorem find_no {s : Stp} : ∀ {f : NdF}, findN s f = none → ∀ j y, f.get? j = some y → stp y.1 ≠ s := by
  intro f h j y hy
  rw [← ix_find] at h
  have := ix_none h j y hy
  simpa using this
theorem putF_is (f : NdF) (y : Nd) : putF f y = match gtF (stp y.1) f with | some _ => repF (stp y.1) y f | none => insF y f := by
  unfold putF
  cases hf : findN (stp y.1) f with
  | some i =>
    obtain ⟨z, -, -, h3⟩ := find_stp hf
    simp only
    rw [h3]
    simp only
    rw [← with_rep hf]
    unfold updF withF oneF
    rfl
  | none =>
    rw [findN_none hf]
    simp only
    have hne := find_no hf
    have tot : ∀ j z, f.get? j = some z → lessX y.1 z.1 = false → lessX z.1 y.1 = true := fun j z hz h => by
      rcases lessS_total (hne j z hz) with h1 | h1
      · exact h1
      · rw [show lessX y.1 z.1 = true from h1] at h; cases h
    cases hx : ixP (fun a => lessX y.1 a) f with
    | some i =>
      obtain ⟨h1, z, h2, h3⟩ := ix_some hx
      simp only
      rw [← with_ins, place_at (f := f) (i := i) (fun j hj z hz => tot j z hz (h1 j hj z hz)) (Nat.le_of_lt (Fr.get_lt h2)) (fun z' hz' => by
        rw [h2] at hz'
        injection hz' with hz'
        subst hz'
        exact lessS_asymm h3)]
    | none =>
      have h1 := ix_none hx
      simp only
      rw [← with_ins, place_at (f := f) (i := f.len) (fun j hj z hz => tot j z hz (h1 j z hz)) (Nat.le_refl _) (fun z hz => by
        have := Fr.get_lt hz
        omega)]
theorem upd_rep {s : Stp} {f : NdF} {i : Nat} {y : Nd} (h : findN s f = some i) : updF i y f = repF s y f := by
  rw [← with_rep h]
  unfold updF withF oneF
  rfl
theorem repl_set : ∀ (l : List Stp) (x p y : Nd) (s : Stp), getX x l = some p → s = stp y.1 → replX x l (p.1, putF p.2 y) = setX x (l ++ [s]) y := by
  intro l
  induction l with
  | nil =>
    intro x p y s h hs
    injection h with h
    subst h
    show (x.1, putF x.2 y) = setX x [s] y
    rw [set_one, putF_is, ← hs]
    cases gtF s x.2 <;> rfl
  | cons t l ih =>
    intro x p y s h hs
    cases hf : findN t x.2 with
    | none => rw [getX_none hf] at h; cases h
    | some i =>
      obtain ⟨z, hz, -, hg⟩ := find_stp hf
      rw [getX_some hf hz] at h
      have h2 := ih z p y s h hs
      obtain ⟨u, l', hl⟩ : ∃ u l', l ++ [s] = u :: l' := by cases l with | nil => exact ⟨s, [], rfl⟩ | cons u l => exact ⟨u, l ++ [s], rfl⟩
      show replX x (t :: l) _ = setX x (t :: (l ++ [s])) y
      rw [hl] at h2 ⊢
      rw [set_more, hg]
      simp only [replX]
      rw [hf]
      simp only
      rw [hz]
      simp only
      rw [h2, upd_rep hf]
theorem repl_cut : ∀ (l : List Stp) (x p : Nd) (s : Stp), getX x l = some p → replX x l (p.1, delF s p.2) = cutX x (l ++ [s]) := by
  intro l
  induction l with
  | nil =>
    intro x p s h
    injection h with h
    subst h
    exact cutX_one.symm
  | cons t l ih =>
    intro x p s h
    cases hf : findN t x.2 with
    | none => rw [getX_none hf] at h; cases h
    | some i =>
      obtain ⟨z, hz, -, hg⟩ := find_stp hf
      rw [getX_some hf hz] at h
      have h2 := ih z p s h
      obtain ⟨u, l', hl⟩ : ∃ u l', l ++ [s] = u :: l' := by cases l with | nil => exact ⟨s, [], rfl⟩ | cons u l => exact ⟨u, l ++ [s], rfl⟩
      show replX x (t :: l) _ = cutX x (t :: (l ++ [s]))
      rw [hl] at h2 ⊢
      rw [cut_more, hg]
      simp only [replX]
      rw [hf]
      simp only
      rw [hz]
      simp only
      rw [h2, upd_rep hf]
theorem dset_boxes (a y : NdD) (f yf : NdF) (A Ay : Option Addr) (c cy : Nat) (w : World) :
    Blk (((w.alloc (.cells #[.string (txt a.name), .string (txt a.key), .int .i64 a.kind, .int .u64 (a.num : Int), .string (txt a.text), .slice A f.len c] 27)).alloc (.cells #[.string (txt y.name), .string (txt y.key), .int .i64 y.kind, .int .u64 (y.num : Int), .string (txt y.text), .slice Ay yf.len cy] 27)).alloc (.cells #[.string ⟨#[]⟩, .string ⟨#[]⟩, .int .i64 0, .int .u64 0, .string ⟨#[]⟩, .slice none 0 0] 27)) w.heap.size 27 #[.string (txt a.name), .string (txt a.key), .int .i64 a.kind, .int .u64 (a.num : Int), .string (txt a.text), .slice A f.len c] ∧ Blk (((w.alloc (.cells #[.string (txt a.name), .string (txt a.key), .int .i64 a.kind, .int .u64 (a.num : Int), .string (txt a.text), .slice A f.len c] 27)).alloc (.cells #[.string (txt y.name), .string (txt y.key), .int .i64 y.kind, .int .u64 (y.num : Int), .string (txt y.text), .slice Ay yf.len cy] 27)).alloc (.cells #[.string ⟨#[]⟩, .string ⟨#[]⟩, .int .i64 0, .int .u64 0, .string ⟨#[]⟩, .slice none 0 0] 27)) (w.heap.size + 1) 27 #[.string (txt y.name), .string (txt y.key), .int .i64 y.kind, .int .u64 (y.num : Int), .string (txt y.text), .slice Ay yf.len cy] ∧ Blk (((w.alloc (.cells #[.string (txt a.name), .string (txt a.key), .int .i64 a.kind, .int .u64 (a.num : Int), .string (txt a.text), .slice A f.len c] 27)).alloc (.cells #[.string (txt y.name), .string (txt y.key), .int .i64 y.kind, .int .u64 (y.num : Int), .string (txt y.text), .slice Ay yf.len cy] 27)).alloc (.cells #[.string ⟨#[]⟩, .string ⟨#[]⟩, .int .i64 0, .int .u64 0, .string ⟨#[]⟩, .slice none 0 0] 27)) (w.heap.size + 2) 27 #[.string ⟨#[]⟩, .string ⟨#[]⟩, .int .i64 0, .int .u64 0, .string ⟨#[]⟩, .slice none 0 0] ∧ Below w.heap.size w (((w.alloc (.cells #[.string (txt a.name), .string (txt a.key), .int .i64 a.kind, .int .u64 (a.num : Int), .string (txt a.text), .slice A f.len c] 27)).alloc (.cells #[.string (txt y.name), .string (txt y.key), .int .i64 y.kind, .int .u64 (y.num : Int), .string (txt y.text), .slice Ay yf.len cy] 27)).alloc (.cells #[.string ⟨#[]⟩, .string ⟨#[]⟩, .int .i64 0, .int .u64 0, .string ⟨#[]⟩, .slice none 0 0] 27)) ∧ (((w.alloc (.cells #[.string (txt a.name), .string (txt a.key), .int .i64 a.kind, .int .u64 (a.num : Int), .string (txt a.text), .slice A f.len c] 27)).alloc (.cells #[.string (txt y.name), .string (txt y.key), .int .i64 y.kind, .int .u64 (y.num : Int), .string (txt y.text), .slice Ay yf.len cy] 27)).alloc (.cells #[.string ⟨#[]⟩, .string ⟨#[]⟩, .int .i64 0, .int .u64 0, .string ⟨#[]⟩, .slice none 0 0] 27)).heap.size = w.heap.size + 3 :=
  ⟨((Blk.new w 27 #[.string (txt a.name), .string (txt a.key), .int .i64 a.kind, .int .u64 (a.num : Int), .string (txt a.text), .slice A f.len c]).alloc _).alloc _, (Blk.newA (by simp) 27 #[.string (txt y.name), .string (txt y.key), .int .i64 y.kind, .int .u64 (y.num : Int), .string (txt y.text), .slice Ay yf.len cy]).alloc _, Blk.newA (by simp) 27 #[.string ⟨#[]⟩, .string ⟨#[]⟩, .int .i64 0, .int .u64 0, .string ⟨#[]⟩, .slice none 0 0], (((Below.refl _ _).alloc (Nat.le_refl _) _).alloc (by simp) _).alloc (by simp; omega) _, by simp⟩
theorem zero_tree {w w' : World} {e : Value} {g : Nat} (hb : Below w.heap.size w w') (hg : w.heap.size ≤ g) : TreP noN e w (.returned (.tuple #[.agg #[.string ⟨#[]⟩, .string ⟨#[]⟩, .int .i64 0, .int .u64 0, .string ⟨#[]⟩, .slice none 0 0], e])) (set6 w' g (.string ⟨#[]⟩) (.string ⟨#[]⟩) (.int .i64 0) (.int .u64 0) (.string ⟨#[]⟩) (.slice none 0 0)) :=
  ⟨_, rfl, OwnU.new (a := zeroT) (k := .nil) ⟨[], [], rfl, OwnK.nil _ _ _ _, rfl, rfl⟩, hb.trans (set6_below hg)⟩
set_option maxRecDepth 100000 in
set_option maxHeartbeats 2000000 in
theorem dset_nil (a y : NdD) (f yf : NdF) (A Ay B : Option Addr) (c cy m : Nat) (w : World) :
    Calls Try.prog 22 #[.agg #[.string (txt a.name), .string (txt a.key), .int .i64 a.kind, .int .u64 (a.num : Int), .string (txt a.text), .slice A f.len c], .slice B 0 m, .agg #[.string (txt y.name), .string (txt y.key), .int .i64 y.kind, .int .u64 (y.num : Int), .string (txt y.text), .slice Ay yf.len cy]] w (TreP noN (.int .i64 1) w) := by
  obtain ⟨h1, h2, h3, h4, h5⟩ := dset_boxes a y f yf A Ay c cy w
  have HZD : Hid (Blk (((w.alloc (.cells #[.string (txt a.name), .string (txt a.key), .int .i64 a.kind, .int .u64 (a.num : Int), .string (txt a.text), .slice A f.len c] 27)).alloc (.cells #[.string (txt y.name), .string (txt y.key), .int .i64 y.kind, .int .u64 (y.num : Int), .string (txt y.text), .slice Ay yf.len cy] 27)).alloc (.cells #[.string ⟨#[]⟩, .string ⟨#[]⟩, .int .i64 0, .int .u64 0, .string ⟨#[]⟩, .slice none 0 0] 27)).drew (w.heap.size + 2) 27 #[.string ⟨#[]⟩, .string ⟨#[]⟩, .int .i64 0, .int .u64 0, .string ⟨#[]⟩, .slice none 0 0]) := Lib.hid h3
  have HBD : Hid (Below w.heap.size w (((w.alloc (.cells #[.string (txt a.name), .string (txt a.key), .int .i64 a.kind, .int .u64 (a.num : Int), .string (txt a.text), .slice A f.len c] 27)).alloc (.cells #[.string (txt y.name), .string (txt y.key), .int .i64 y.kind, .int .u64 (y.num : Int), .string (txt y.text), .slice Ay yf.len cy] 27)).alloc (.cells #[.string ⟨#[]⟩, .string ⟨#[]⟩, .int .i64 0, .int .u64 0, .string ⟨#[]⟩, .slice none 0 0] 27)).drew) := Lib.hid h4.drew
  clear h1 h2 h3 h4 h5
  go_enter Try.func22, Try.ntmps22
  go_wp2_with fail
  refine wp_region_noPanic ?_
  refine wp_region_held_drew (S := fun _ => True) (by kernel_rfl) trivial (fun hS => ?_)
  generalize (((w.alloc (.cells #[.string (txt a.name), .string (txt a.key), .int .i64 a.kind, .int .u64 (a.num : Int), .string (txt a.text), .slice A f.len c] 27)).alloc (.cells #[.string (txt y.name), .string (txt y.key), .int .i64 y.kind, .int .u64 (y.num : Int), .string (txt y.text), .slice Ay yf.len cy] 27)).alloc (.cells #[.string ⟨#[]⟩, .string ⟨#[]⟩, .int .i64 0, .int .u64 0, .string ⟨#[]⟩, .slice none 0 0] 27)).drew = wq at HZD HBD ⊢
  refine wpAnyH_take (i := 0) (oi := ?o1_0_1) (v := ?v1_0_1) ?i1_0_1 (by kernel_rfl) (by kernel_rfl) (by kernel_rfl) (fun _ _ _ h => h) (Or.inl ⟨?g1_0_1, ?y1_0_1⟩) hS ?_
  case i1_0_1 => simp only [List.getElem?_toArray, List.getElem?_cons_succ, List.getElem?_cons_zero]; rfl
  case g1_0_1 => rfl
  case y1_0_1 => (intro w hSw; (go_simp <;> with_reducible rfl))
  (try simp only [Act.put, List.setIfInBounds_toArray, List.set_cons_zero, List.set_cons_succ])
  refine wpAnyH_take (i := 1) (oi := ?o1_1_2) (v := ?v1_1_2) ?i1_1_2 (by kernel_rfl) (by kernel_rfl) (by kernel_rfl) (fun _ _ _ h => h) (Or.inl ⟨?g1_1_2, ?y1_1_2⟩) hS ?_
  case i1_1_2 => simp only [List.getElem?_toArray, List.getElem?_cons_succ, List.getElem?_cons_zero]; rfl
  case g1_1_2 => rfl
  case y1_1_2 => (intro w hSw; (go_simp <;> with_reducible rfl))
  (try simp only [Act.put, List.setIfInBounds_toArray, List.set_cons_zero, List.set_cons_succ])
  refine wpAnyH_take (i := 2) (oi := ?o1_2_3) (v := ?v1_2_3) ?i1_2_3 (by kernel_rfl) (by kernel_rfl) (by kernel_rfl) (fun _ _ _ h => h) (Or.inl ⟨?g1_2_3, ?y1_2_3⟩) hS ?_
  case i1_2_3 => simp only [List.getElem?_toArray, List.getElem?_cons_succ, List.getElem?_cons_zero]; rfl
  case g1_2_3 => rfl
  case y1_2_3 => (intro w hSw; (go_simp <;> with_reducible rfl))
  (try simp only [Act.put, List.setIfInBounds_toArray, List.set_cons_zero, List.set_cons_succ])
  refine wpAnyH_take (i := 3) (oi := ?o1_3_4) (v := undef) ?i1_3_4 (by kernel_rfl) (by kernel_rfl) (by kernel_rfl) (fun _ _ _ h => h) (Or.inr ⟨?g1_3_4, rfl⟩) hS ?_
  case i1_3_4 => simp only [List.getElem?_toArray, List.getElem?_cons_succ, List.getElem?_cons_zero]; rfl
  case g1_3_4 => rfl
  (try simp only [Act.put, List.setIfInBounds_toArray, List.set_cons_zero, List.set_cons_succ])
  refine wpAnyH_take (i := 4) (oi := ?o1_4_5) (v := undef) ?i1_4_5 (by kernel_rfl) (by kernel_rfl) (by kernel_rfl) (fun _ _ _ h => h) (Or.inr ⟨?g1_4_5, rfl⟩) hS ?_
  case i1_4_5 => simp only [List.getElem?_toArray, List.getElem?_cons_succ, List.getElem?_cons_zero]; rfl
  case g1_4_5 => rfl
  (try simp only [Act.put, List.setIfInBounds_toArray, List.set_cons_zero, List.set_cons_succ])
  refine wpAnyH_take (i := 5) (oi := ?o1_5_6) (v := undef) ?i1_5_6 (by kernel_rfl) (by kernel_rfl) (by kernel_rfl) (fun _ _ _ h => h) (Or.inr ⟨?g1_5_6, rfl⟩) hS ?_
  case i1_5_6 => simp only [List.getElem?_toArray, List.getElem?_cons_succ, List.getElem?_cons_zero]; rfl
  case g1_5_6 => rfl
  (try simp only [Act.put, List.setIfInBounds_toArray, List.set_cons_zero, List.set_cons_succ])
  refine wpAnyH_take (i := 6) (oi := ?o1_6_7) (v := undef) ?i1_6_7 (by kernel_rfl) (by kernel_rfl) (by kernel_rfl) (fun _ _ _ h => h) (Or.inr ⟨?g1_6_7, rfl⟩) hS ?_
  case i1_6_7 => simp only [List.getElem?_toArray, List.getElem?_cons_succ, List.getElem?_cons_zero]; rfl
  case g1_6_7 => rfl
  (try simp only [Act.put, List.setIfInBounds_toArray, List.set_cons_zero, List.set_cons_succ])
  refine wpAnyH_take (i := 7) (oi := ?o1_7_8) (v := undef) ?i1_7_8 (by kernel_rfl) (by kernel_rfl) (by kernel_rfl) (fun _ _ _ h => h) (Or.inr ⟨?g1_7_8, rfl⟩) hS ?_
  case i1_7_8 => simp only [List.getElem?_toArray, List.getElem?_cons_succ, List.getElem?_cons_zero]; rfl
  case g1_7_8 => rfl
  (try simp only [Act.put, List.setIfInBounds_toArray, List.set_cons_zero, List.set_cons_succ])
  refine wpAnyH_take (i := 8) (oi := ?o1_8_9) (v := undef) ?i1_8_9 (by kernel_rfl) (by kernel_rfl) (by kernel_rfl) (fun _ _ _ h => h) (Or.inr ⟨?g1_8_9, rfl⟩) hS ?_
  case i1_8_9 => simp only [List.getElem?_toArray, List.getElem?_cons_succ, List.getElem?_cons_zero]; rfl
  case g1_8_9 => rfl
  (try simp only [Act.put, List.setIfInBounds_toArray, List.set_cons_zero, List.set_cons_succ])
  refine wpAnyH_take (i := 9) (oi := ?o1_9_10) (v := undef) ?i1_9_10 (by kernel_rfl) (by kernel_rfl) (by kernel_rfl) (fun _ _ _ h => h) (Or.inr ⟨?g1_9_10, rfl⟩) hS ?_
  case i1_9_10 => simp only [List.getElem?_toArray, List.getElem?_cons_succ, List.getElem?_cons_zero]; rfl
  case g1_9_10 => rfl
  (try simp only [Act.put, List.setIfInBounds_toArray, List.set_cons_zero, List.set_cons_succ])
  refine wpAnyH_take (i := 10) (oi := ?o1_10_11) (v := ?v1_10_11) ?i1_10_11 (by kernel_rfl) (by kernel_rfl) (by kernel_rfl) (fun _ _ _ h => h) (Or.inl ⟨?g1_10_11, ?y1_10_11⟩) hS ?_
  case i1_10_11 => simp only [List.getElem?_toArray, List.getElem?_cons_succ, List.getElem?_cons_zero]; rfl
  case g1_10_11 => rfl
  case y1_10_11 => (intro w hSw; (go_simp <;> with_reducible rfl))
  (try simp only [Act.put, List.setIfInBounds_toArray, List.set_cons_zero, List.set_cons_succ])
  refine wpAnyH_done (by kernel_rfl) ?_ _
  refine NoPanic.normal ?_
  clear hS
  have fz0 : (wq).frozen? ⟨w.heap.size + 2, 0, none⟩ = false := HZD.out.frozen 0
  have fq0 := (HZD.out.cell 0).trans rfl
  have fz1 : (wq).frozen? ⟨w.heap.size + 2, 1, none⟩ = false := HZD.out.frozen 1
  have fq1 := (HZD.out.cell 1).trans rfl
  have fz2 : (wq).frozen? ⟨w.heap.size + 2, 2, none⟩ = false := HZD.out.frozen 2
  have fq2 := (HZD.out.cell 2).trans rfl
  have fz3 : (wq).frozen? ⟨w.heap.size + 2, 3, none⟩ = false := HZD.out.frozen 3
  have fq3 := (HZD.out.cell 3).trans rfl
  have fz4 : (wq).frozen? ⟨w.heap.size + 2, 4, none⟩ = false := HZD.out.frozen 4
  have fq4 := (HZD.out.cell 4).trans rfl
  have fz5 : (wq).frozen? ⟨w.heap.size + 2, 5, none⟩ = false := HZD.out.frozen 5
  have fq5 := (HZD.out.cell 5).trans rfl
  have RZ : Hid (Blk (set6 wq (w.heap.size + 2) (.string ⟨#[]⟩) (.string ⟨#[]⟩) (.int .i64 0) (.int .u64 0) (.string ⟨#[]⟩) (.slice none 0 0)) (w.heap.size + 2) 27 #[.string ⟨#[]⟩, .string ⟨#[]⟩, .int .i64 0, .int .u64 0, .string ⟨#[]⟩, .slice none 0 0]) := Lib.hid (HZD.out.set6 _ _ _ _ _ _)
  have HQ : Hid (TreP noN (.int .i64 1) w (.returned (.tuple #[.agg #[.string ⟨#[]⟩, .string ⟨#[]⟩, .int .i64 0, .int .u64 0, .string ⟨#[]⟩, .slice none 0 0], .int .i64 1])) (set6 wq (w.heap.size + 2) (.string ⟨#[]⟩) (.string ⟨#[]⟩) (.int .i64 0) (.int .u64 0) (.string ⟨#[]⟩) (.slice none 0 0))) := Lib.hid (zero_tree HBD.out (by omega))
  go_wp2
  refine bodyPost_ret (res_ct9 rfl _ _ (w.heap.size + 2) 27 _ (0, 0) _ rfl RZ.out Try.underlying27 rfl (by kernel_rfl)) rfl ?_
  exact HQ.out
set_option maxRecDepth 100000 in
set_option maxHeartbeats 2000000 in
theorem dset_arg (a y : NdD) (f yf : NdF) (A Ay B : Option Addr) (c cy m n : Nat) (l : List Stp) (sl : Stp) (w : World) (hv : WayV w.heap.size w (.slice B (n + 1) m) l) (hs : l[n]? = some sl) (hll : l.length ≤ 1000000) (hne : stp y ≠ sl) :
    Calls Try.prog 22 #[.agg #[.string (txt a.name), .string (txt a.key), .int .i64 a.kind, .int .u64 (a.num : Int), .string (txt a.text), .slice A f.len c], .slice B (n + 1) m, .agg #[.string (txt y.name), .string (txt y.key), .int .i64 y.kind, .int .u64 (y.num : Int), .string (txt y.text), .slice Ay yf.len cy]] w (TreP noN (.int .i64 1) w) := by
  obtain ⟨h1, h2, h3, h4, h5⟩ := dset_boxes a y f yf A Ay c cy w
  obtain ⟨gv, ov, rfl, hvn, hvm, hgv, ht0, ht1⟩ := hv.at hs
  have hn : l.length = n + 1 := hvn.symm
  have HQ0 : Hid (Blk (((w.alloc (.cells #[.string (txt a.name), .string (txt a.key), .int .i64 a.kind, .int .u64 (a.num : Int), .string (txt a.text), .slice A f.len c] 27)).alloc (.cells #[.string (txt y.name), .string (txt y.key), .int .i64 y.kind, .int .u64 (y.num : Int), .string (txt y.text), .slice Ay yf.len cy] 27)).alloc (.cells #[.string ⟨#[]⟩, .string ⟨#[]⟩, .int .i64 0, .int .u64 0, .string ⟨#[]⟩, .slice none 0 0] 27)).drew w.heap.size 27 #[.string (txt a.name), .string (txt a.key), .int .i64 a.kind, .int .u64 (a.num : Int), .string (txt a.text), .slice A f.len c] ∧ Blk (((w.alloc (.cells #[.string (txt a.name), .string (txt a.key), .int .i64 a.kind, .int .u64 (a.num : Int), .string (txt a.text), .slice A f.len c] 27)).alloc (.cells #[.string (txt y.name), .string (txt y.key), .int .i64 y.kind, .int .u64 (y.num : Int), .string (txt y.text), .slice Ay yf.len cy] 27)).alloc (.cells #[.string ⟨#[]⟩, .string ⟨#[]⟩, .int .i64 0, .int .u64 0, .string ⟨#[]⟩, .slice none 0 0] 27)).drew (w.heap.size + 1) 27 #[.string (txt y.name), .string (txt y.key), .int .i64 y.kind, .int .u64 (y.num : Int), .string (txt y.text), .slice Ay yf.len cy] ∧ Blk (((w.alloc (.cells #[.string (txt a.name), .string (txt a.key), .int .i64 a.kind, .int .u64 (a.num : Int), .string (txt a.text), .slice A f.len c] 27)).alloc (.cells #[.string (txt y.name), .string (txt y.key), .int .i64 y.kind, .int .u64 (y.num : Int), .string (txt y.text), .slice Ay yf.len cy] 27)).alloc (.cells #[.string ⟨#[]⟩, .string ⟨#[]⟩, .int .i64 0, .int .u64 0, .string ⟨#[]⟩, .slice none 0 0] 27)).drew (w.heap.size + 2) 27 #[.string ⟨#[]⟩, .string ⟨#[]⟩, .int .i64 0, .int .u64 0, .string ⟨#[]⟩, .slice none 0 0] ∧ w.heap.size + 3 ≤ (((w.alloc (.cells #[.string (txt a.name), .string (txt a.key), .int .i64 a.kind, .int .u64 (a.num : Int), .string (txt a.text), .slice A f.len c] 27)).alloc (.cells #[.string (txt y.name), .string (txt y.key), .int .i64 y.kind, .int .u64 (y.num : Int), .string (txt y.text), .slice Ay yf.len cy] 27)).alloc (.cells #[.string ⟨#[]⟩, .string ⟨#[]⟩, .int .i64 0, .int .u64 0, .string ⟨#[]⟩, .slice none 0 0] 27)).drew.heap.size) := Lib.hid ⟨h1, h2, h3, Nat.le_of_eq h5.symm⟩
  have HBD : Hid (Below w.heap.size w (((w.alloc (.cells #[.string (txt a.name), .string (txt a.key), .int .i64 a.kind, .int .u64 (a.num : Int), .string (txt a.text), .slice A f.len c] 27)).alloc (.cells #[.string (txt y.name), .string (txt y.key), .int .i64 y.kind, .int .u64 (y.num : Int), .string (txt y.text), .slice Ay yf.len cy] 27)).alloc (.cells #[.string ⟨#[]⟩, .string ⟨#[]⟩, .int .i64 0, .int .u64 0, .string ⟨#[]⟩, .slice none 0 0] 27)).drew) := Lib.hid h4.drew
  have HWAY : Hid (∀ W, Below w.heap.size w W → W.cell? ⟨gv, ov + n * 2, none⟩ = some (.string (txt sl.1)) ∧ W.cell? ⟨gv, ov + n * 2 + 1, none⟩ = some (.string (txt sl.2))) := Lib.hid (fun W hW => ⟨(hW.cell (p := ⟨gv, ov + n * 2, none⟩) hgv).trans ht0, (hW.cell (p := ⟨gv, ov + n * 2 + 1, none⟩) hgv).trans ht1⟩)
  have HV := Lib.hid hv
  have HLN := Lib.hid (And.intro hn hll)
  have i1 : (0 : Int) ≤ (n : Int) := by omega
  have i2 : (n : Int) ≤ 1000000 := by omega
  have i3 : (n : Int) < (n : Int) + 1 := by omega
  have i4 : decide ((n : Int) < 0) = false := decide_eq_false (by omega)
  have i5 : ¬ (n : Int) < 0 := by omega
  have i6 : (n : Int) ≤ (m : Int) := by omega
  have HE : Hid (∀ (α : Type) (R1 R0 : α), (if (txt y.name).toList = (txt sl.1).toList then if (txt y.key).toList = (txt sl.2).toList then R1 else R0 else R0) = R0) := Lib.hid (by
    intro α R1 R0
    simp only [txt_toList]
    split
    · split
      · exact absurd (Prod.ext ‹_› ‹_›) hne
      · rfl
    · rfl)
  clear h1 h2 h3 h4 h5 hv hs hll hne hvn hvm hgv ht0 ht1 hn
  go_enter Try.func22, Try.ntmps22
  go_wp2_with fail
  refine wp_region_noPanic ?_
  refine wp_region_held_drew (S := fun _ => True) (by kernel_rfl) trivial (fun hS => ?_)
  generalize (((w.alloc (.cells #[.string (txt a.name), .string (txt a.key), .int .i64 a.kind, .int .u64 (a.num : Int), .string (txt a.text), .slice A f.len c] 27)).alloc (.cells #[.string (txt y.name), .string (txt y.key), .int .i64 y.kind, .int .u64 (y.num : Int), .string (txt y.text), .slice Ay yf.len cy] 27)).alloc (.cells #[.string ⟨#[]⟩, .string ⟨#[]⟩, .int .i64 0, .int .u64 0, .string ⟨#[]⟩, .slice none 0 0] 27)).drew = wq at HQ0 HBD ⊢
  refine held_more (S' := fun w' => Blk w' (w.heap.size + 1) 27 #[.string (txt y.name), .string (txt y.key), .int .i64 y.kind, .int .u64 (y.num : Int), .string (txt y.text), .slice Ay yf.len cy] ∧ (w'.cell? ⟨gv, ov + n * 2, none⟩ = some (.string (txt sl.1)) ∧ w'.cell? ⟨gv, ov + n * 2 + 1, none⟩ = some (.string (txt sl.2)))) (fun _ _ => trivial) _ _ _ _ ?_
  replace hS := And.intro HQ0.out.2.1 (HWAY.out _ HBD.out)
  refine wpAnyH_take (i := 0) (oi := ?o2_0_1) (v := ?v2_0_1) ?i2_0_1 (by kernel_rfl) (by kernel_rfl) (by kernel_rfl) (fun _ _ _ h => h) (Or.inl ⟨?g2_0_1, ?y2_0_1⟩) hS ?_
  case i2_0_1 => simp only [List.getElem?_toArray, List.getElem?_cons_succ, List.getElem?_cons_zero]; rfl
  case g2_0_1 => rfl
  case y2_0_1 => (intro w hSw; (go_simp <;> with_reducible rfl))
  (try simp only [Act.put, List.setIfInBounds_toArray, List.set_cons_zero, List.set_cons_succ])
  refine wpAnyH_take (i := 1) (oi := ?o2_1_2) (v := ?v2_1_2) ?i2_1_2 (by kernel_rfl) (by kernel_rfl) (by kernel_rfl) (fun _ _ _ h => h) (Or.inl ⟨?g2_1_2, ?y2_1_2⟩) hS ?_
  case i2_1_2 => simp only [List.getElem?_toArray, List.getElem?_cons_succ, List.getElem?_cons_zero]; rfl
  case g2_1_2 => rfl
  case y2_1_2 => (intro w hSw; (go_simp <;> with_reducible rfl))
  (try simp only [Act.put, List.setIfInBounds_toArray, List.set_cons_zero, List.set_cons_succ])
  refine wpAnyH_take (i := 2) (oi := ?o2_2_3) (v := ?v2_2_3) ?i2_2_3 (by kernel_rfl) (by kernel_rfl) (by kernel_rfl) (fun _ _ _ h => h) (Or.inl ⟨?g2_2_3, ?y2_2_3⟩) hS ?_
  case i2_2_3 => simp only [List.getElem?_toArray, List.getElem?_cons_succ, List.getElem?_cons_zero]; rfl
  case g2_2_3 => rfl
  case y2_2_3 => (intro w hSw; (go_simp <;> with_reducible rfl))
  (try simp only [Act.put, List.setIfInBounds_toArray, List.set_cons_zero, List.set_cons_succ])
  refine wpAnyH_take (i := 3) (oi := ?o2_3_4) (v := ?v2_3_4) ?i2_3_4 (by kernel_rfl) (by kernel_rfl) (by kernel_rfl) (fun _ _ _ h => h) (Or.inl ⟨?g2_3_4, ?y2_3_4⟩) hS ?_
  case i2_3_4 => simp only [List.getElem?_toArray, List.getElem?_cons_succ, List.getElem?_cons_zero]; rfl
  case g2_3_4 => rfl
  case y2_3_4 => (intro w hSw; have q0 := (hSw.1.cell 0).trans rfl; have q1 := (hSw.1.cell 1).trans rfl; have q2 := (hSw.1.cell 2).trans rfl; have q3 := (hSw.1.cell 3).trans rfl; have q4 := (hSw.1.cell 4).trans rfl; have q5 := (hSw.1.cell 5).trans rfl; (go_simp <;> with_reducible rfl))
  (try simp only [Act.put, List.setIfInBounds_toArray, List.set_cons_zero, List.set_cons_succ])
  refine wpAnyH_take (i := 5) (oi := ?o2_5_5) (v := ?v2_5_5) ?i2_5_5 (by kernel_rfl) (by kernel_rfl) (by kernel_rfl) (fun _ _ _ h => h) (Or.inl ⟨?g2_5_5, ?y2_5_5⟩) hS ?_
  case i2_5_5 => simp only [List.getElem?_toArray, List.getElem?_cons_succ, List.getElem?_cons_zero]; rfl
  case g2_5_5 => rfl
  case y2_5_5 => (intro w hSw; (go_simp <;> with_reducible rfl))
  (try simp only [Act.put, List.setIfInBounds_toArray, List.set_cons_zero, List.set_cons_succ])
  refine wpAnyH_take (i := 6) (oi := ?o2_6_6) (v := ?v2_6_6) ?i2_6_6 (by kernel_rfl) (by kernel_rfl) (by kernel_rfl) (fun _ _ _ h => h) (Or.inl ⟨?g2_6_6, ?y2_6_6⟩) hS ?_
  case i2_6_6 => simp only [List.getElem?_toArray, List.getElem?_cons_succ, List.getElem?_cons_zero]; rfl
  case g2_6_6 => rfl
  case y2_6_6 => (intro w hSw; (go_simp <;> with_reducible rfl))
  (try simp only [Act.put, List.setIfInBounds_toArray, List.set_cons_zero, List.set_cons_succ])
  refine wpAnyH_take (i := 7) (oi := ?o2_7_7) (v := ?v2_7_7) ?i2_7_7 (by kernel_rfl) (by kernel_rfl) (by kernel_rfl) (fun _ _ _ h => h) (Or.inl ⟨?g2_7_7, ?y2_7_7⟩) hS ?_
  case i2_7_7 => simp only [List.getElem?_toArray, List.getElem?_cons_succ, List.getElem?_cons_zero]; rfl
  case g2_7_7 => rfl
  case y2_7_7 => (intro w hSw; (go_simp <;> with_reducible rfl))
  (try simp only [Act.put, List.setIfInBounds_toArray, List.set_cons_zero, List.set_cons_succ])
  refine wpAnyH_take (i := 8) (oi := ?o2_8_8) (v := ?v2_8_8) ?i2_8_8 (by kernel_rfl) (by kernel_rfl) (by kernel_rfl) (fun _ _ _ h => h) (Or.inl ⟨?g2_8_8, ?y2_8_8⟩) hS ?_
  case i2_8_8 => simp only [List.getElem?_toArray, List.getElem?_cons_succ, List.getElem?_cons_zero]; rfl
  case g2_8_8 => rfl
  case y2_8_8 => (intro w hSw; have q0 := hSw.2.1; have q1 := hSw.2.2; (go_simp <;> with_reducible rfl))
  (try simp only [Act.put, List.setIfInBounds_toArray, List.set_cons_zero, List.set_cons_succ])
  refine wpAnyH_ready (rs := [4]) (by kernel_rfl) (by simp) ?_
  refine (AllReadyH.cons (o := ?or2_9_4) ?ir2_9_4 (fun K hK => ?str2_9_4) AllReadyH.nil)
  case ir2_9_4 => simp only [List.getElem?_toArray, List.getElem?_cons_succ, List.getElem?_cons_zero]; rfl
  rw [if_pos (by rfl)]
  go_simp
  refine (stepof_any y (.slice Ay yf.len cy) _).mono ?_
  rintro r w2 ⟨rfl, hb2⟩
  have HQ2 := Lib.hid (And.intro (HQ0.out.1.below hb2 HQ0.out.1.lt) (And.intro (HQ0.out.2.1.below hb2 HQ0.out.2.1.lt) (And.intro (HQ0.out.2.2.1.below hb2 HQ0.out.2.2.1.lt) (Nat.le_trans HQ0.out.2.2.2 hb2.size))))
  have HB2 := Lib.hid (HBD.out.trans (hb2.mono HBD.out.size))
  clear hb2
  go_wp2_with fail
  refine hK.out _ _ ?sr2_9_4 (fun hS => ?_)
  case sr2_9_4 => (exact ⟨HQ2.out.2.1, HWAY.out _ HB2.out⟩)
  clear hK K
  (try simp only [Act.put, List.setIfInBounds_toArray, List.set_cons_zero, List.set_cons_succ])
  refine wpAnyH_take (i := 9) (oi := ?o2_9_10) (v := ?v2_9_10) ?i2_9_10 (by kernel_rfl) (by kernel_rfl) (by kernel_rfl) (fun _ _ _ h => h) (Or.inl ⟨?g2_9_10, ?y2_9_10⟩) hS ?_
  case i2_9_10 => simp only [List.getElem?_toArray, List.getElem?_cons_succ, List.getElem?_cons_zero]; rfl
  case g2_9_10 => rfl
  case y2_9_10 => (intro w hSw; have he := HE.out; (go_simp <;> with_reducible rfl))
  (try simp only [Act.put, List.setIfInBounds_toArray, List.set_cons_zero, List.set_cons_succ])
  refine wpAnyH_take (i := 10) (oi := ?o2_10_11) (v := ?v2_10_11) ?i2_10_11 (by kernel_rfl) (by kernel_rfl) (by kernel_rfl) (fun _ _ _ h => h) (Or.inl ⟨?g2_10_11, ?y2_10_11⟩) hS ?_
  case i2_10_11 => simp only [List.getElem?_toArray, List.getElem?_cons_succ, List.getElem?_cons_zero]; rfl
  case g2_10_11 => rfl
  case y2_10_11 => (intro w hSw; (go_simp <;> with_reducible rfl))
  (try simp only [Act.put, List.setIfInBounds_toArray, List.set_cons_zero, List.set_cons_succ])
  refine wpAnyH_done (by kernel_rfl) ?_ _
  refine NoPanic.normal ?_
  clear hS
  have HZ2 := Lib.hid HQ2.out.2.2.1
  have fz0 : (w2).frozen? ⟨w.heap.size + 2, 0, none⟩ = false := HZ2.out.frozen 0
  have fq0 := (HZ2.out.cell 0).trans rfl
  have fz1 : (w2).frozen? ⟨w.heap.size + 2, 1, none⟩ = false := HZ2.out.frozen 1
  have fq1 := (HZ2.out.cell 1).trans rfl
  have fz2 : (w2).frozen? ⟨w.heap.size + 2, 2, none⟩ = false := HZ2.out.frozen 2
  have fq2 := (HZ2.out.cell 2).trans rfl
  have fz3 : (w2).frozen? ⟨w.heap.size + 2, 3, none⟩ = false := HZ2.out.frozen 3
  have fq3 := (HZ2.out.cell 3).trans rfl
  have fz4 : (w2).frozen? ⟨w.heap.size + 2, 4, none⟩ = false := HZ2.out.frozen 4
  have fq4 := (HZ2.out.cell 4).trans rfl
  have fz5 : (w2).frozen? ⟨w.heap.size + 2, 5, none⟩ = false := HZ2.out.frozen 5
  have fq5 := (HZ2.out.cell 5).trans rfl
  have RZ : Hid (Blk (set6 w2 (w.heap.size + 2) (.string ⟨#[]⟩) (.string ⟨#[]⟩) (.int .i64 0) (.int .u64 0) (.string ⟨#[]⟩) (.slice none 0 0)) (w.heap.size + 2) 27 #[.string ⟨#[]⟩, .string ⟨#[]⟩, .int .i64 0, .int .u64 0, .string ⟨#[]⟩, .slice none 0 0]) := Lib.hid (HZ2.out.set6 _ _ _ _ _ _)
  have HQ : Hid (TreP noN (.int .i64 1) w (.returned (.tuple #[.agg #[.string ⟨#[]⟩, .string ⟨#[]⟩, .int .i64 0, .int .u64 0, .string ⟨#[]⟩, .slice none 0 0], .int .i64 1])) (set6 w2 (w.heap.size + 2) (.string ⟨#[]⟩) (.string ⟨#[]⟩) (.int .i64 0) (.int .u64 0) (.string ⟨#[]⟩) (.slice none 0 0))) := Lib.hid (zero_tree HB2.out (by omega))
  go_wp2
  refine bodyPost_ret (res_ct9 rfl _ _ (w.heap.size + 2) 27 _ (0, 0) _ rfl RZ.out Try.underlying27 rfl (by kernel_rfl)) rfl ?_
  exact HQ.out
/-- What Set is to leave. -/
def SetR (a y : NdD) (f yf : NdF) (l : List Stp) (w : World) (r : Ending) (w' : World) : Prop := TreP (SetX (a, f) l (y, yf)).1 (.int .i64 ((SetX (a, f) l (y, yf)).2 : Int)) w r w'
theorem setR_no {a y : NdD} {f yf : NdF} {l : List Stp} {w w' : World} {r : Ending} (hl : l.getLast? = some (stp y)) (h : getX (a, f) l.dropLast = none ∨ ∃ p, getX (a, f) l.dropLast = some p ∧ p.1.kind ≠ 0) (hT : TreP noN (.int .i64 30) w r w') : SetR a y f yf l w r w' := by
  have e : SetX (a, f) l (y, yf) = (noN, 30) := by
    unfold SetX
    rw [if_neg (by simpa using hl)]
    rcases h with h | ⟨p, h, hk⟩
    · rw [h]
    · rw [h]
      simp only
      rw [if_pos hk]
  unfold SetR
  rw [e]
  exact hT
theorem setR_ok {a y : NdD} {f yf : NdF} {l : List Stp} {p : Nd} {w w' : World} {r : Ending} (hl : l.getLast? = some (stp y)) (h : getX (a, f) l.dropLast = some p) (hk : p.1.kind = 0) (hT : TreP (setX (a, f) l (y, yf)) (.int .i64 0) w r w') : SetR a y f yf l w r w' := by
  have e : SetX (a, f) l (y, yf) = (setX (a, f) l (y, yf), 0) := by
    unfold SetX
    rw [if_neg (by simpa using hl), h]
    simp only
    rw [if_neg (by simpa using hk)]
  unfold SetR
  rw [e]
  exact hT
set_option maxRecDepth 100000 in
set_option maxHeartbeats 4000000 in
theorem dset_go (a y : NdD) (f yf : NdF) (A Ay B : Option Addr) (c cy m n : Nat) (l : List Stp) (sl : Stp) (w : World) (hk : RowT w.heap.size w (.slice A f.len c) f) (hky : RowT w.heap.size w (.slice Ay yf.len cy) yf) (hf : f.size ≤ 1000000) (hyf : yf.size ≤ 1000000) (hv : WayV w.heap.size w (.slice B (n + 1) m) l) (hs : l[n]? = some sl) (hll : l.length ≤ 1000000) (heq : stp y = sl) :
    Calls Try.prog 22 #[.agg #[.string (txt a.name), .string (txt a.key), .int .i64 a.kind, .int .u64 (a.num : Int), .string (txt a.text), .slice A f.len c], .slice B (n + 1) m, .agg #[.string (txt y.name), .string (txt y.key), .int .i64 y.kind, .int .u64 (y.num : Int), .string (txt y.text), .slice Ay yf.len cy]] w (SetR a y f yf l w) := by
  obtain ⟨h1, h2, h3, h4, h5⟩ := dset_boxes a y f yf A Ay c cy w
  obtain ⟨gv, ov, rfl, hvn, hvm, hgv, ht0, ht1⟩ := hv.at hs
  have hn : l.length = n + 1 := hvn.symm
  have HQ0 : Hid (Blk (((w.alloc (.cells #[.string (txt a.name), .string (txt a.key), .int .i64 a.kind, .int .u64 (a.num : Int), .string (txt a.text), .slice A f.len c] 27)).alloc (.cells #[.string (txt y.name), .string (txt y.key), .int .i64 y.kind, .int .u64 (y.num : Int), .string (txt y.text), .slice Ay yf.len cy] 27)).alloc (.cells #[.string ⟨#[]⟩, .string ⟨#[]⟩, .int .i64 0, .int .u64 0, .string ⟨#[]⟩, .slice none 0 0] 27)).drew w.heap.size 27 #[.string (txt a.name), .string (txt a.key), .int .i64 a.kind, .int .u64 (a.num : Int), .string (txt a.text), .slice A f.len c] ∧ Blk (((w.alloc (.cells #[.string (txt a.name), .string (txt a.key), .int .i64 a.kind, .int .u64 (a.num : Int), .string (txt a.text), .slice A f.len c] 27)).alloc (.cells #[.string (txt y.name), .string (txt y.key), .int .i64 y.kind, .int .u64 (y.num : Int), .string (txt y.text), .slice Ay yf.len cy] 27)).alloc (.cells #[.string ⟨#[]⟩, .string ⟨#[]⟩, .int .i64 0, .int .u64 0, .string ⟨#[]⟩, .slice none 0 0] 27)).drew (w.heap.size + 1) 27 #[.string (txt y.name), .string (txt y.key), .int .i64 y.kind, .int .u64 (y.num : Int), .string (txt y.text), .slice Ay yf.len cy] ∧ Blk (((w.alloc (.cells #[.string (txt a.name), .string (txt a.key), .int .i64 a.kind, .int .u64 (a.num : Int), .string (txt a.text), .slice A f.len c] 27)).alloc (.cells #[.string (txt y.name), .string (txt y.key), .int .i64 y.kind, .int .u64 (y.num : Int), .string (txt y.text), .slice Ay yf.len cy] 27)).alloc (.cells #[.string ⟨#[]⟩, .string ⟨#[]⟩, .int .i64 0, .int .u64 0, .string ⟨#[]⟩, .slice none 0 0] 27)).drew (w.heap.size + 2) 27 #[.string ⟨#[]⟩, .string ⟨#[]⟩, .int .i64 0, .int .u64 0, .string ⟨#[]⟩, .slice none 0 0] ∧ w.heap.size + 3 ≤ (((w.alloc (.cells #[.string (txt a.name), .string (txt a.key), .int .i64 a.kind, .int .u64 (a.num : Int), .string (txt a.text), .slice A f.len c] 27)).alloc (.cells #[.string (txt y.name), .string (txt y.key), .int .i64 y.kind, .int .u64 (y.num : Int), .string (txt y.text), .slice Ay yf.len cy] 27)).alloc (.cells #[.string ⟨#[]⟩, .string ⟨#[]⟩, .int .i64 0, .int .u64 0, .string ⟨#[]⟩, .slice none 0 0] 27)).drew.heap.size) := Lib.hid ⟨h1, h2, h3, Nat.le_of_eq h5.symm⟩
  have HBD : Hid (Below w.heap.size w (((w.alloc (.cells #[.string (txt a.name), .string (txt a.key), .int .i64 a.kind, .int .u64 (a.num : Int), .string (txt a.text), .slice A f.len c] 27)).alloc (.cells #[.string (txt y.name), .string (txt y.key), .int .i64 y.kind, .int .u64 (y.num : Int), .string (txt y.text), .slice Ay yf.len cy] 27)).alloc (.cells #[.string ⟨#[]⟩, .string ⟨#[]⟩, .int .i64 0, .int .u64 0, .string ⟨#[]⟩, .slice none 0 0] 27)).drew) := Lib.hid h4.drew
  have HWAY : Hid (∀ W, Below w.heap.size w W → W.cell? ⟨gv, ov + n * 2, none⟩ = some (.string (txt sl.1)) ∧ W.cell? ⟨gv, ov + n * 2 + 1, none⟩ = some (.string (txt sl.2))) := Lib.hid (fun W hW => ⟨(hW.cell (p := ⟨gv, ov + n * 2, none⟩) hgv).trans ht0, (hW.cell (p := ⟨gv, ov + n * 2 + 1, none⟩) hgv).trans ht1⟩)
  have HV := Lib.hid hv
  have HLN := Lib.hid (And.intro hn hll)
  have i1 : (0 : Int) ≤ (n : Int) := by omega
  have i2 : (n : Int) ≤ 1000000 := by omega
  have i3 : (n : Int) < (n : Int) + 1 := by omega
  have i4 : decide ((n : Int) < 0) = false := decide_eq_false (by omega)
  have i5 : ¬ (n : Int) < 0 := by omega
  have i6 : (n : Int) ≤ (m : Int) := by omega
  have e1 : (txt y.name).toList = (txt sl.1).toList := by rw [← heq]; rfl
  have e2 : (txt y.key).toList = (txt sl.2).toList := by rw [← heq]; rfl
  have E12 := Lib.hid (And.intro e1 e2)
  have HCN : Hid (∀ W, Below w.heap.size w W → Calls Try.prog 28 #[.agg #[.string (txt a.name), .string (txt a.key), .int .i64 a.kind, .int .u64 (a.num : Int), .string (txt a.text), .slice A f.len c]] W (CopP a f W)) := Lib.hid (fun W hW => copy_any f a A c W (hk.under hW (Nat.le_refl _) hW.size) hf)
  have HCY : Hid (∀ W, Below w.heap.size w W → Calls Try.prog 28 #[.agg #[.string (txt y.name), .string (txt y.key), .int .i64 y.kind, .int .u64 (y.num : Int), .string (txt y.text), .slice Ay yf.len cy]] W (CopP y yf W)) := Lib.hid (fun W hW => copy_any yf y Ay cy W (hky.under hW (Nat.le_refl _) hW.size) hyf)
  have hlast : l.getLast? = some (stp y) := by
    rw [List.getLast?_eq_getElem?, hn, Nat.add_sub_cancel, hs, heq]
  have hdl : l.dropLast = l.take n := by rw [List.dropLast_eq_take, hn, Nat.add_sub_cancel]
  have hll2 : l = l.take n ++ [sl] := by
    have h1 := List.take_append_drop n l
    have h2 : l.drop n = [sl] := by
      rw [List.drop_eq_getElem_cons (by omega), List.drop_eq_nil_of_le (by omega)]
      rw [List.getElem?_eq_getElem (by omega)] at hs
      injection hs with hs
      rw [hs]
    rw [h2] at h1
    exact h1.symm
  have HLAST := Lib.hid hlast
  have HDL := Lib.hid hdl
  have HLL2 := Lib.hid hll2
  have HEQ := Lib.hid heq
  have HF := Lib.hid hf
  have hvf := WayV.front n (by omega) hv
  have HVF : Hid (∀ W, Below w.heap.size w W → WayV W.heap.size W (.slice (some ⟨gv, ov, none⟩) n m) (l.take n)) := Lib.hid (fun W hW => hvf.under hW (Nat.le_refl _) hW.size)
  have HTL : Hid ((l.take n).length ≤ 1000000) := Lib.hid (by rw [List.length_take]; omega)
  clear h1 h2 h3 h4 h5 hv hs hll heq hvn hvm hgv ht0 ht1 hn e1 e2 hk hky hf hyf hlast hdl hll2 hvf
  go_enter Try.func22, Try.ntmps22
  go_wp2_with fail
  refine wp_region_noPanic ?_
  refine wp_region_held_drew (S := fun _ => True) (by kernel_rfl) trivial (fun hS => ?_)
  generalize (((w.alloc (.cells #[.string (txt a.name), .string (txt a.key), .int .i64 a.kind, .int .u64 (a.num : Int), .string (txt a.text), .slice A f.len c] 27)).alloc (.cells #[.string (txt y.name), .string (txt y.key), .int .i64 y.kind, .int .u64 (y.num : Int), .string (txt y.text), .slice Ay yf.len cy] 27)).alloc (.cells #[.string ⟨#[]⟩, .string ⟨#[]⟩, .int .i64 0, .int .u64 0, .string ⟨#[]⟩, .slice none 0 0] 27)).drew = wq at HQ0 HBD ⊢
  refine held_more (S' := fun w' => Blk w' (w.heap.size + 1) 27 #[.string (txt y.name), .string (txt y.key), .int .i64 y.kind, .int .u64 (y.num : Int), .string (txt y.text), .slice Ay yf.len cy] ∧ (w'.cell? ⟨gv, ov + n * 2, none⟩ = some (.string (txt sl.1)) ∧ w'.cell? ⟨gv, ov + n * 2 + 1, none⟩ = some (.string (txt sl.2)))) (fun _ _ => trivial) _ _ _ _ ?_
  replace hS := And.intro HQ0.out.2.1 (HWAY.out _ HBD.out)
  refine wpAnyH_take (i := 0) (oi := ?o3_0_1) (v := ?v3_0_1) ?i3_0_1 (by kernel_rfl) (by kernel_rfl) (by kernel_rfl) (fun _ _ _ h => h) (Or.inl ⟨?g3_0_1, ?y3_0_1⟩) hS ?_
  case i3_0_1 => simp only [List.getElem?_toArray, List.getElem?_cons_succ, List.getElem?_cons_zero]; rfl
  case g3_0_1 => rfl
  case y3_0_1 => (intro w hSw; (go_simp <;> with_reducible rfl))
  (try simp only [Act.put, List.setIfInBounds_toArray, List.set_cons_zero, List.set_cons_succ])
  refine wpAnyH_take (i := 1) (oi := ?o3_1_2) (v := ?v3_1_2) ?i3_1_2 (by kernel_rfl) (by kernel_rfl) (by kernel_rfl) (fun _ _ _ h => h) (Or.inl ⟨?g3_1_2, ?y3_1_2⟩) hS ?_
  case i3_1_2 => simp only [List.getElem?_toArray, List.getElem?_cons_succ, List.getElem?_cons_zero]; rfl
  case g3_1_2 => rfl
  case y3_1_2 => (intro w hSw; (go_simp <;> with_reducible rfl))
  (try simp only [Act.put, List.setIfInBounds_toArray, List.set_cons_zero, List.set_cons_succ])
  refine wpAnyH_take (i := 2) (oi := ?o3_2_3) (v := ?v3_2_3) ?i3_2_3 (by kernel_rfl) (by kernel_rfl) (by kernel_rfl) (fun _ _ _ h => h) (Or.inl ⟨?g3_2_3, ?y3_2_3⟩) hS ?_
  case i3_2_3 => simp only [List.getElem?_toArray, List.getElem?_cons_succ, List.getElem?_cons_zero]; rfl
  case g3_2_3 => rfl
  case y3_2_3 => (intro w hSw; (go_simp <;> with_reducible rfl))
  (try simp only [Act.put, List.setIfInBounds_toArray, List.set_cons_zero, List.set_cons_succ])
  refine wpAnyH_take (i := 3) (oi := ?o3_3_4) (v := ?v3_3_4) ?i3_3_4 (by kernel_rfl) (by kernel_rfl) (by kernel_rfl) (fun _ _ _ h => h) (Or.inl ⟨?g3_3_4, ?y3_3_4⟩) hS ?_
  case i3_3_4 => simp only [List.getElem?_toArray, List.getElem?_cons_succ, List.getElem?_cons_zero]; rfl
  case g3_3_4 => rfl
  case y3_3_4 => (intro w hSw; have q0 := (hSw.1.cell 0).trans rfl; have q1 := (hSw.1.cell 1).trans rfl; have q2 := (hSw.1.cell 2).trans rfl; have q3 := (hSw.1.cell 3).trans rfl; have q4 := (hSw.1.cell 4).trans rfl; have q5 := (hSw.1.cell 5).trans rfl; (go_simp <;> with_reducible rfl))
  (try simp only [Act.put, List.setIfInBounds_toArray, List.set_cons_zero, List.set_cons_succ])
  refine wpAnyH_take (i := 5) (oi := ?o3_5_5) (v := ?v3_5_5) ?i3_5_5 (by kernel_rfl) (by kernel_rfl) (by kernel_rfl) (fun _ _ _ h => h) (Or.inl ⟨?g3_5_5, ?y3_5_5⟩) hS ?_
  case i3_5_5 => simp only [List.getElem?_toArray, List.getElem?_cons_succ, List.getElem?_cons_zero]; rfl
  case g3_5_5 => rfl
  case y3_5_5 => (intro w hSw; (go_simp <;> with_reducible rfl))
  (try simp only [Act.put, List.setIfInBounds_toArray, List.set_cons_zero, List.set_cons_succ])
  refine wpAnyH_take (i := 6) (oi := ?o3_6_6) (v := ?v3_6_6) ?i3_6_6 (by kernel_rfl) (by kernel_rfl) (by kernel_rfl) (fun _ _ _ h => h) (Or.inl ⟨?g3_6_6, ?y3_6_6⟩) hS ?_
  case i3_6_6 => simp only [List.getElem?_toArray, List.getElem?_cons_succ, List.getElem?_cons_zero]; rfl
  case g3_6_6 => rfl
  case y3_6_6 => (intro w hSw; (go_simp <;> with_reducible rfl))
  (try simp only [Act.put, List.setIfInBounds_toArray, List.set_cons_zero, List.set_cons_succ])
  refine wpAnyH_take (i := 7) (oi := ?o3_7_7) (v := ?v3_7_7) ?i3_7_7 (by kernel_rfl) (by kernel_rfl) (by kernel_rfl) (fun _ _ _ h => h) (Or.inl ⟨?g3_7_7, ?y3_7_7⟩) hS ?_
  case i3_7_7 => simp only [List.getElem?_toArray, List.getElem?_cons_succ, List.getElem?_cons_zero]; rfl
  case g3_7_7 => rfl
  case y3_7_7 => (intro w hSw; (go_simp <;> with_reducible rfl))
  (try simp only [Act.put, List.setIfInBounds_toArray, List.set_cons_zero, List.set_cons_succ])
  refine wpAnyH_take (i := 8) (oi := ?o3_8_8) (v := ?v3_8_8) ?i3_8_8 (by kernel_rfl) (by kernel_rfl) (by kernel_rfl) (fun _ _ _ h => h) (Or.inl ⟨?g3_8_8, ?y3_8_8⟩) hS ?_
  case i3_8_8 => simp only [List.getElem?_toArray, List.getElem?_cons_succ, List.getElem?_cons_zero]; rfl
  case g3_8_8 => rfl
  case y3_8_8 => (intro w hSw; have q0 := hSw.2.1; have q1 := hSw.2.2; (go_simp <;> with_reducible rfl))
  (try simp only [Act.put, List.setIfInBounds_toArray, List.set_cons_zero, List.set_cons_succ])
  refine wpAnyH_ready (rs := [4]) (by kernel_rfl) (by simp) ?_
  refine (AllReadyH.cons (o := ?or3_9_4) ?ir3_9_4 (fun K hK => ?str3_9_4) AllReadyH.nil)
  case ir3_9_4 => simp only [List.getElem?_toArray, List.getElem?_cons_succ, List.getElem?_cons_zero]; rfl
  rw [if_pos (by rfl)]
  go_simp
  refine (stepof_any y (.slice Ay yf.len cy) _).mono ?_
  rintro r w2 ⟨rfl, hb2⟩
  have HQ2 := Lib.hid (And.intro (HQ0.out.1.below hb2 HQ0.out.1.lt) (And.intro (HQ0.out.2.1.below hb2 HQ0.out.2.1.lt) (And.intro (HQ0.out.2.2.1.below hb2 HQ0.out.2.2.1.lt) (Nat.le_trans HQ0.out.2.2.2 hb2.size))))
  have HB2 := Lib.hid (HBD.out.trans (hb2.mono HBD.out.size))
  clear hb2
  go_wp2_with fail
  refine hK.out _ _ ?sr3_9_4 (fun hS => ?_)
  case sr3_9_4 => (exact ⟨HQ2.out.2.1, HWAY.out _ HB2.out⟩)
  clear hK K
  (try simp only [Act.put, List.setIfInBounds_toArray, List.set_cons_zero, List.set_cons_succ])
  refine wpAnyH_take (i := 9) (oi := ?o3_9_10) (v := ?v3_9_10) ?i3_9_10 (by kernel_rfl) (by kernel_rfl) (by kernel_rfl) (fun _ _ _ h => h) (Or.inl ⟨?g3_9_10, ?y3_9_10⟩) hS ?_
  case i3_9_10 => simp only [List.getElem?_toArray, List.getElem?_cons_succ, List.getElem?_cons_zero]; rfl
  case g3_9_10 => rfl
  case y3_9_10 => (intro w hSw; have e1 := E12.out.1; have e2 := E12.out.2; (go_simp <;> with_reducible rfl))
  (try simp only [Act.put, List.setIfInBounds_toArray, List.set_cons_zero, List.set_cons_succ])
  refine wpAnyH_take (i := 10) (oi := ?o3_10_11) (v := ?v3_10_11) ?i3_10_11 (by kernel_rfl) (by kernel_rfl) (by kernel_rfl) (fun _ _ _ h => h) (Or.inl ⟨?g3_10_11, ?y3_10_11⟩) hS ?_
  case i3_10_11 => simp only [List.getElem?_toArray, List.getElem?_cons_succ, List.getElem?_cons_zero]; rfl
  case g3_10_11 => rfl
  case y3_10_11 => (intro w hSw; (go_simp <;> with_reducible rfl))
  (try simp only [Act.put, List.setIfInBounds_toArray, List.set_cons_zero, List.set_cons_succ])
  refine wpAnyH_done (by kernel_rfl) ?_ _
  refine NoPanic.normal ?_
  clear hS
  have q0 := (HQ2.out.1.cell 0).trans rfl
  have q1 := (HQ2.out.1.cell 1).trans rfl
  have q2 := (HQ2.out.1.cell 2).trans rfl
  have q3 := (HQ2.out.1.cell 3).trans rfl
  have q4 := (HQ2.out.1.cell 4).trans rfl
  have q5 := (HQ2.out.1.cell 5).trans rfl
  go_wp2_with fail
  refine (HCN.out w2 HB2.out).mono ?_
  rintro r w3 ⟨v1, F1, rfl, hU, hnd, hb3⟩
  obtain ⟨A1, c1, rfl⟩ := hU.shape
  have HX3 := Lib.hid (HQ2.out.1.below hb3 HQ2.out.1.lt)
  have HQ3 : Hid (Blk (set6 w3 w.heap.size (.string (txt a.name)) (.string (txt a.key)) (.int .i64 a.kind) (.int .u64 (a.num : Int)) (.string (txt a.text)) (.slice A1 f.len c1)) w.heap.size 27 #[.string (txt a.name), .string (txt a.key), .int .i64 a.kind, .int .u64 (a.num : Int), .string (txt a.text), .slice A1 f.len c1] ∧ Blk (set6 w3 w.heap.size (.string (txt a.name)) (.string (txt a.key)) (.int .i64 a.kind) (.int .u64 (a.num : Int)) (.string (txt a.text)) (.slice A1 f.len c1)) (w.heap.size + 1) 27 #[.string (txt y.name), .string (txt y.key), .int .i64 y.kind, .int .u64 (y.num : Int), .string (txt y.text), .slice Ay yf.len cy] ∧ Blk (set6 w3 w.heap.size (.string (txt a.name)) (.string (txt a.key)) (.int .i64 a.kind) (.int .u64 (a.num : Int)) (.string (txt a.text)) (.slice A1 f.len c1)) (w.heap.size + 2) 27 #[.string ⟨#[]⟩, .string ⟨#[]⟩, .int .i64 0, .int .u64 0, .string ⟨#[]⟩, .slice none 0 0] ∧ w.heap.size + 3 ≤ (set6 w3 w.heap.size (.string (txt a.name)) (.string (txt a.key)) (.int .i64 a.kind) (.int .u64 (a.num : Int)) (.string (txt a.text)) (.slice A1 f.len c1)).heap.size) := Lib.hid ⟨HX3.out.set6 _ _ _ _ _ _,
    (set6_other (by omega)).trans (HQ2.out.2.1.below hb3 HQ2.out.2.1.lt), (set6_other (by omega)).trans (HQ2.out.2.2.1.below hb3 HQ2.out.2.2.1.lt), by rw [set6_size]; exact Nat.le_trans HQ2.out.2.2.2 hb3.size⟩
  have HB3 : Hid (Below w.heap.size w (set6 w3 w.heap.size (.string (txt a.name)) (.string (txt a.key)) (.int .i64 a.kind) (.int .u64 (a.num : Int)) (.string (txt a.text)) (.slice A1 f.len c1))) := Lib.hid ((HB2.out.trans (hb3.mono HB2.out.size)).trans (set6_below (Nat.le_refl _)))
  have hF1 : ∀ h, h ∈ F1 → w.heap.size + 3 ≤ h := fun h hh => Nat.le_trans HQ2.out.2.2.2 (hU.fresh h hh).1
  have HU3 : Hid (OwnU (set6 w3 w.heap.size (.string (txt a.name)) (.string (txt a.key)) (.int .i64 a.kind) (.int .u64 (a.num : Int)) (.string (txt a.text)) (.slice A1 f.len c1)) w.heap.size (.slice A1 f.len c1) f F1) := Lib.hid (hU.keep (fun h hh => set6_other (by have := hF1 h hh; omega)) HB2.out.size)
  have HF1 := Lib.hid hF1
  have HND := Lib.hid hnd
  have HAT : Hid (Calls Try.prog 34 #[.pointer (some ⟨w.heap.size, 0, none⟩), .slice (some ⟨gv, ov, none⟩) n m] (set6 w3 w.heap.size (.string (txt a.name)) (.string (txt a.key)) (.int .i64 a.kind) (.int .u64 (a.num : Int)) (.string (txt a.text)) (.slice A1 f.len c1)) (AtP (a, f) (l.take n) w.heap.size 0 (set6 w3 w.heap.size (.string (txt a.name)) (.string (txt a.key)) (.int .i64 a.kind) (.int .u64 (a.num : Int)) (.string (txt a.text)) (.slice A1 f.len c1)))) := Lib.hid
    (at_any (a, f) (l.take n) w.heap.size 0 _ (set6 w3 w.heap.size (.string (txt a.name)) (.string (txt a.key)) (.int .i64 a.kind) (.int .u64 (a.num : Int)) (.string (txt a.text)) (.slice A1 f.len c1)) (node_box HQ3.out.1 (LieB.row (HU3.out.lies (a := a)))) (HVF.out _ HB3.out) HF.out HTL.out)
  have fz0 : (w3).frozen? ⟨w.heap.size, 0, none⟩ = false := HX3.out.frozen 0
  have fq0 := (HX3.out.cell 0).trans rfl
  have fz1 : (w3).frozen? ⟨w.heap.size, 1, none⟩ = false := HX3.out.frozen 1
  have fq1 := (HX3.out.cell 1).trans rfl
  have fz2 : (w3).frozen? ⟨w.heap.size, 2, none⟩ = false := HX3.out.frozen 2
  have fq2 := (HX3.out.cell 2).trans rfl
  have fz3 : (w3).frozen? ⟨w.heap.size, 3, none⟩ = false := HX3.out.frozen 3
  have fq3 := (HX3.out.cell 3).trans rfl
  have fz4 : (w3).frozen? ⟨w.heap.size, 4, none⟩ = false := HX3.out.frozen 4
  have fq4 := (HX3.out.cell 4).trans rfl
  have fz5 : (w3).frozen? ⟨w.heap.size, 5, none⟩ = false := HX3.out.frozen 5
  have fq5 := (HX3.out.cell 5).trans rfl
  clear hU hnd hb3 hF1 q0 q1 q2 q3 q4 q5
  go_wp2_with fail
  refine HAT.out.mono ?_
  rintro r w4 ⟨hb4, hcase⟩
  have HQ4 : Hid (Blk w4 (w.heap.size + 1) 27 #[.string (txt y.name), .string (txt y.key), .int .i64 y.kind, .int .u64 (y.num : Int), .string (txt y.text), .slice Ay yf.len cy] ∧ Blk w4 (w.heap.size + 2) 27 #[.string ⟨#[]⟩, .string ⟨#[]⟩, .int .i64 0, .int .u64 0, .string ⟨#[]⟩, .slice none 0 0] ∧ w.heap.size + 3 ≤ w4.heap.size) := Lib.hid ⟨HQ3.out.2.1.below hb4 HQ3.out.2.1.lt, HQ3.out.2.2.1.below hb4 HQ3.out.2.2.1.lt, Nat.le_trans HQ3.out.2.2.2 hb4.size⟩
  have HB4 := Lib.hid (HB3.out.trans (hb4.mono HB3.out.size))
  clear fz0 fz1 fz2 fz3 fz4 fz5 fq0 fq1 fq2 fq3 fq4 fq5
  rcases hcase with ⟨hno, rfl⟩ | ⟨⟨pa, pf⟩, g', o', hy, rfl, hnd, hpat⟩
  · have HNO : Hid (getX (a, f) l.dropLast = none) := Lib.hid (by rw [HDL.out]; exact hno)
    have HZ4 := Lib.hid HQ4.out.2.1
    clear hno hb4
    have fz0 : (w4).frozen? ⟨w.heap.size + 2, 0, none⟩ = false := HZ4.out.frozen 0
    have fq0 := (HZ4.out.cell 0).trans rfl
    have fz1 : (w4).frozen? ⟨w.heap.size + 2, 1, none⟩ = false := HZ4.out.frozen 1
    have fq1 := (HZ4.out.cell 1).trans rfl
    have fz2 : (w4).frozen? ⟨w.heap.size + 2, 2, none⟩ = false := HZ4.out.frozen 2
    have fq2 := (HZ4.out.cell 2).trans rfl
    have fz3 : (w4).frozen? ⟨w.heap.size + 2, 3, none⟩ = false := HZ4.out.frozen 3
    have fq3 := (HZ4.out.cell 3).trans rfl
    have fz4 : (w4).frozen? ⟨w.heap.size + 2, 4, none⟩ = false := HZ4.out.frozen 4
    have fq4 := (HZ4.out.cell 4).trans rfl
    have fz5 : (w4).frozen? ⟨w.heap.size + 2, 5, none⟩ = false := HZ4.out.frozen 5
    have fq5 := (HZ4.out.cell 5).trans rfl
    have RZ : Hid (Blk (set6 w4 (w.heap.size + 2) (.string ⟨#[]⟩) (.string ⟨#[]⟩) (.int .i64 0) (.int .u64 0) (.string ⟨#[]⟩) (.slice none 0 0)) (w.heap.size + 2) 27 #[.string ⟨#[]⟩, .string ⟨#[]⟩, .int .i64 0, .int .u64 0, .string ⟨#[]⟩, .slice none 0 0]) := Lib.hid (HZ4.out.set6 _ _ _ _ _ _)
    have HQ : Hid (SetR a y f yf l w (.returned (.tuple #[.agg #[.string ⟨#[]⟩, .string ⟨#[]⟩, .int .i64 0, .int .u64 0, .string ⟨#[]⟩, .slice none 0 0], .int .i64 30])) (set6 w4 (w.heap.size + 2) (.string ⟨#[]⟩) (.string ⟨#[]⟩) (.int .i64 0) (.int .u64 0) (.string ⟨#[]⟩) (.slice none 0 0))) := Lib.hid (setR_no HLAST.out (.inl HNO.out) (zero_tree HB4.out (by omega)))
    go_wp2
    refine bodyPost_ret (res_ct9 rfl _ _ (w.heap.size + 2) 27 _ (0, 0) _ rfl RZ.out Try.underlying27 rfl (by kernel_rfl)) rfl ?_
    exact HQ.out
  · have hcl1 : ∀ j u, (ndC a (.slice A1 f.len c1))[j]? = some u → (set6 w3 w.heap.size (.string (txt a.name)) (.string (txt a.key)) (.int .i64 a.kind) (.int .u64 (a.num : Int)) (.string (txt a.text)) (.slice A1 f.len c1)).cell? ⟨w.heap.size, 0 + j, none⟩ = some u := fun j u hu => by
      rw [Nat.zero_add, HQ3.out.1.cell]; simpa using hu
    obtain ⟨Fy, k1, k2, k3, k4, k5, k6⟩ := zip_any (set6 w3 w.heap.size (.string (txt a.name)) (.string (txt a.key)) (.int .i64 a.kind) (.int .u64 (a.num : Int)) (.string (txt a.text)) (.slice A1 f.len c1)) w.heap.size (l.take n) (a, f) (pa, pf) w.heap.size 0 g' o' F1 ⟨_, hcl1, HU3.out⟩ HND.out (fun hm => by have := HF1.out _ hm; omega) HQ3.out.1.lt hy hpat
    have hgne : g' ≠ w.heap.size + 1 ∧ g' ≠ w.heap.size + 2 ∧ w.heap.size ≤ g' ∧ g' < (set6 w3 w.heap.size (.string (txt a.name)) (.string (txt a.key)) (.int .i64 a.kind) (.int .u64 (a.num : Int)) (.string (txt a.text)) (.slice A1 f.len c1)).heap.size := by
      rcases k5 with ⟨e, -⟩ | h
      · have := HQ3.out.1.lt; exact ⟨by omega, by omega, by omega, by omega⟩
      · have := HF1.out _ h; have := (HU3.out.fresh g' h).lt; exact ⟨by omega, by omega, by omega, by omega⟩
    have hgfr : Fresh9 w.heap.size (set6 w3 w.heap.size (.string (txt a.name)) (.string (txt a.key)) (.int .i64 a.kind) (.int .u64 (a.num : Int)) (.string (txt a.text)) (.slice A1 f.len c1)) g' := by
      rcases k5 with ⟨e, -⟩ | h
      · rw [e]; exact ⟨Nat.le_refl _, _, _, HQ3.out.1⟩
      · exact HU3.out.fresh g' h
    have hpsz : pf.len ≤ 1000000 := by
      have h1 := get_size (l.take n) (a, f) (pa, pf) hy
      have h2 := HF.out
      have h3 := Fr.len_size pf
      unfold sizeX at h1
      simp only at h1
      omega
    obtain ⟨hgl, A4, c4, hcl4, hr4⟩ := hnd.below hb4
    have s0 : w4.cell? ⟨g', o', none⟩ = _ := hcl4 0 _ rfl
    have s1 : w4.cell? ⟨g', o' + 1, none⟩ = _ := hcl4 1 _ rfl
    have s2 : w4.cell? ⟨g', o' + 2, none⟩ = _ := hcl4 2 _ rfl
    have s3 : w4.cell? ⟨g', o' + 3, none⟩ = _ := hcl4 3 _ rfl
    have s4 : w4.cell? ⟨g', o' + 4, none⟩ = _ := hcl4 4 _ rfl
    have s5 : w4.cell? ⟨g', o' + 5, none⟩ = _ := hcl4 5 _ rfl
    have HGP : Hid (getX (a, f) l.dropLast = some (pa, pf)) := Lib.hid (by rw [HDL.out]; exact hy)
    have HGP2 : Hid (getX (a, f) (l.take n) = some (pa, pf)) := Lib.hid hy
    have HB34 : Hid (Below (set6 w3 w.heap.size (.string (txt a.name)) (.string (txt a.key)) (.int .i64 a.kind) (.int .u64 (a.num : Int)) (.string (txt a.text)) (.slice A1 f.len c1)).heap.size (set6 w3 w.heap.size (.string (txt a.name)) (.string (txt a.key)) (.int .i64 a.kind) (.int .u64 (a.num : Int)) (.string (txt a.text)) (.slice A1 f.len c1)) w4) := Lib.hid hb4
    have K1 := Lib.hid k1
    have K2 := Lib.hid k2
    have K3 := Lib.hid (And.intro k3 k4)
    have K6 := Lib.hid k6
    have HGN := Lib.hid hgne
    have HGR := Lib.hid hgfr
    have HPS := Lib.hid hpsz
    clear hy hnd hpat hcl1 k1 k2 k3 k4 k5 k6 hgne hgfr hpsz hgl hcl4 hr4 hb4
    by_cases hkd : pa.kind = 0
    · have HLF : Hid (∀ W, Calls Try.prog 30 #[.agg #[.string (txt pa.name), .string (txt pa.key), .int .i64 pa.kind, .int .u64 (pa.num : Int), .string (txt pa.text), .slice A4 pf.len c4]] W (Ans9 (.bool false) W)) := Lib.hid (fun W => by
        have h := leafis_any pa (.slice A4 pf.len c4) W
        rw [show decide (pa.kind ≠ 0) = false by simp [hkd]] at h
        exact h)
      have HKD := Lib.hid hkd
      clear hkd
      go_wp2_with fail
      refine (HLF.out _).mono ?_
      rintro r w5 ⟨rfl, hb5⟩
      have HQ5 := Lib.hid (HQ4.out.1.below hb5 HQ4.out.1.lt)
      have HB5 := Lib.hid (HB4.out.trans (hb5.mono HB4.out.size))
      have HB35 := Lib.hid (HB34.out.trans (hb5.mono HB34.out.size))
      have q0 := (HQ5.out.cell 0).trans rfl
      have q1 := (HQ5.out.cell 1).trans rfl
      have q2 := (HQ5.out.cell 2).trans rfl
      have q3 := (HQ5.out.cell 3).trans rfl
      have q4 := (HQ5.out.cell 4).trans rfl
      have q5 := (HQ5.out.cell 5).trans rfl
      clear hb5 s0 s1 s2 s3 s4 s5
      go_wp2_with fail
      refine (HCY.out w5 HB5.out).mono ?_
      rintro r w6 ⟨vx, Fx, rfl, hUx, hndx, hb6⟩
      obtain ⟨Ax, cx, rfl⟩ := hUx.shape
      have HB36 : Hid (Below (set6 w3 w.heap.size (.string (txt a.name)) (.string (txt a.key)) (.int .i64 a.kind) (.int .u64 (a.num : Int)) (.string (txt a.text)) (.slice A1 f.len c1)).heap.size (set6 w3 w.heap.size (.string (txt a.name)) (.string (txt a.key)) (.int .i64 a.kind) (.int .u64 (a.num : Int)) (.string (txt a.text)) (.slice A1 f.len c1)) w6) := Lib.hid (HB35.out.trans (hb6.mono HB35.out.size))
      have HFX : Hid (∀ h, h ∈ Fx → w5.heap.size ≤ h) := Lib.hid (fun h hh => (hUx.fresh h hh).1)
      have HPUT : Hid (Calls Try.prog 37 #[.pointer (some ⟨g', o', none⟩), .agg #[.string (txt y.name), .string (txt y.key), .int .i64 y.kind, .int .u64 (y.num : Int), .string (txt y.text), .slice Ax yf.len cx]] w6 (PutR w.heap.size g' o' (pa, putF pf (y, yf)) Fy Fx w6)) := Lib.hid (by
        obtain ⟨v, hcl, hU⟩ := K1.out
        have hFy : ∀ h, h ∈ Fy → h < (set6 w3 w.heap.size (.string (txt a.name)) (.string (txt a.key)) (.int .i64 a.kind) (.int .u64 (a.num : Int)) (.string (txt a.text)) (.slice A1 f.len c1)).heap.size := fun h hh => (hU.fresh h hh).lt
        obtain ⟨zs, F0, rfl, hK, hT⟩ := hU
        have hsz : (set6 w3 w.heap.size (.string (txt a.name)) (.string (txt a.key)) (.int .i64 a.kind) (.int .u64 (a.num : Int)) (.string (txt a.text)) (.slice A1 f.len c1)).heap.size ≤ w5.heap.size := HB35.out.size
        refine put_any w.heap.size g' o' pa y pf yf F0 Fx zs v Ax cx w6 (fun j u hu => (HB36.out.cell (p := ⟨g', o' + j, none⟩) HGN.out.2.2.2).trans (hcl j u hu)) (hK.below HB36.out) (hT.below HB36.out) K3.out.1 K3.out.2 ?_
          (hUx.keep (fun _ _ => rfl) HB5.out.size) hndx (fun h hh => ⟨fun hm => by have := hFy h hm; have := HFX.out h hh; omega, fun e => by have := HFX.out h hh; have := HGN.out.2.2.2; omega⟩) HPS.out (Nat.le_trans HB5.out.size hb6.size)
        obtain ⟨h1, cs, t, h2⟩ := HGR.out
        exact ⟨h1, cs, t, (HB36.out.block g' HGN.out.2.2.2).trans h2⟩)
      have HB6 := Lib.hid (HB5.out.trans (hb6.mono HB5.out.size))
      clear hUx hndx hb6 q0 q1 q2 q3 q4 q5
      go_wp2_with fail
      refine HPUT.out.mono ?_
      rintro r w7 ⟨rfl, Fy', m1, m2, m3, m4, m5, m6, m7⟩
      obtain ⟨F', n1, n2, n3, n4⟩ := K6.out w7 (pa, putF pf (y, yf)) Fy' m1 m2 m3 (fun h hh => by
          have h1 := HB35.out.size
          have h2 := HB36.out.size
          rcases m4 h hh with h3 | h3 | h3
          · exact .inl h3
          · have := HFX.out h h3; exact .inr (by omega)
          · exact .inr (by omega))
        (by
          obtain ⟨cs, cs', t, e1, e2, e3, e4⟩ := m5
          exact ⟨cs, cs', t, (HB36.out.block g' HGN.out.2.2.2).symm.trans e1, e2, e3, e4⟩)
        (fun h hh h1 h2 => (m6 h (Nat.lt_of_lt_of_le hh HB36.out.size) h1 h2).trans (HB36.out.block h hh))
      have hX : replX (a, f) (l.take n) (pa, putF pf (y, yf)) = setX (a, f) l (y, yf) := by
        rw [repl_set (l.take n) (a, f) (pa, pf) (y, yf) sl HGP2.out HEQ.out.symm, ← HLL2.out]
      rw [hX] at n1
      obtain ⟨XF, hXF⟩ : ∃ XF, XF = (setX (a, f) l (y, yf)).2 := ⟨_, rfl⟩
      have hXX : setX (a, f) l (y, yf) = (a, XF) := by
        rw [hXF]
        exact Prod.ext set_fst rfl
      rw [hXX] at n1
      obtain ⟨v', ncl, nU⟩ := n1
      obtain ⟨A7, c7, rfl⟩ := nU.shape
      have HZ7 : Hid (Blk w7 (w.heap.size + 2) 27 #[.string ⟨#[]⟩, .string ⟨#[]⟩, .int .i64 0, .int .u64 0, .string ⟨#[]⟩, .slice none 0 0]) := Lib.hid (by
        have h1 : w.heap.size + 2 < w6.heap.size := by have := HB36.out.size; have := HQ3.out.2.2.2; omega
        refine (m6 _ h1 (fun e => HGN.out.2.1 e.symm) (fun hm => by have := HF1.out _ (K2.out _ hm); omega)).trans ?_
        exact (HB36.out.block _ HQ3.out.2.2.1.lt).trans HQ3.out.2.2.1)
      have RZ : Hid (Blk (set6 w7 (w.heap.size + 2) (.string (txt a.name)) (.string (txt a.key)) (.int .i64 a.kind) (.int .u64 (a.num : Int)) (.string (txt a.text)) (.slice A7 XF.len c7)) (w.heap.size + 2) 27 #[.string (txt a.name), .string (txt a.key), .int .i64 a.kind, .int .u64 (a.num : Int), .string (txt a.text), .slice A7 XF.len c7]) := Lib.hid (HZ7.out.set6 _ _ _ _ _ _)
      have HQ : Hid (SetR a y f yf l w (.returned (.tuple #[.agg #[.string (txt a.name), .string (txt a.key), .int .i64 a.kind, .int .u64 (a.num : Int), .string (txt a.text), .slice A7 XF.len c7], .int .i64 0])) (set6 w7 (w.heap.size + 2) (.string (txt a.name)) (.string (txt a.key)) (.int .i64 a.kind) (.int .u64 (a.num : Int)) (.string (txt a.text)) (.slice A7 XF.len c7))) := Lib.hid (by
        refine setR_ok HLAST.out HGP.out HKD.out ?_
        rw [hXX]
        have h0 := HQ3.out.2.2.2
        exact ⟨_, rfl, OwnU.new (a := a) (nU.keep (fun h hh => set6_other (by rcases n4 h hh with h1 | h1; have := HF1.out h h1; omega; omega)) (Nat.le_refl _)), (HB6.out.trans m7).trans (set6_below (by omega))⟩)
      have p0 : w7.cell? ⟨w.heap.size, 0, none⟩ = _ := ncl 0 _ rfl
      have p1 : w7.cell? ⟨w.heap.size, 1, none⟩ = _ := ncl 1 _ rfl
      have p2 : w7.cell? ⟨w.heap.size, 2, none⟩ = _ := ncl 2 _ rfl
      have p3 : w7.cell? ⟨w.heap.size, 3, none⟩ = _ := ncl 3 _ rfl
      have p4 : w7.cell? ⟨w.heap.size, 4, none⟩ = _ := ncl 4 _ rfl
      have p5 : w7.cell? ⟨w.heap.size, 5, none⟩ = _ := ncl 5 _ rfl
      have fz0 : (w7).frozen? ⟨w.heap.size + 2, 0, none⟩ = false := HZ7.out.frozen 0
      have fq0 := (HZ7.out.cell 0).trans rfl
      have fz1 : (w7).frozen? ⟨w.heap.size + 2, 1, none⟩ = false := HZ7.out.frozen 1
      have fq1 := (HZ7.out.cell 1).trans rfl
      have fz2 : (w7).frozen? ⟨w.heap.size + 2, 2, none⟩ = false := HZ7.out.frozen 2
      have fq2 := (HZ7.out.cell 2).trans rfl
      have fz3 : (w7).frozen? ⟨w.heap.size + 2, 3, none⟩ = false := HZ7.out.frozen 3
      have fq3 := (HZ7.out.cell 3).trans rfl
      have fz4 : (w7).frozen? ⟨w.heap.size + 2, 4, none⟩ = false := HZ7.out.frozen 4
      have fq4 := (HZ7.out.cell 4).trans rfl
      have fz5 : (w7).frozen? ⟨w.heap.size + 2, 5, none⟩ = false := HZ7.out.frozen 5
      have fq5 := (HZ7.out.cell 5).trans rfl
      clear m1 m2 m3 m4 m5 m6 m7 n2 n3 n4 hX hXF hXX ncl nU
      go_wp2
      refine bodyPost_ret (res_ct9 rfl _ _ (w.heap.size + 2) 27 _ (0, 0) _ rfl RZ.out Try.underlying27 rfl (by kernel_rfl)) rfl ?_
      exact HQ.out
    · have HLF : Hid (∀ W, Calls Try.prog 30 #[.agg #[.string (txt pa.name), .string (txt pa.key), .int .i64 pa.kind, .int .u64 (pa.num : Int), .string (txt pa.text), .slice A4 pf.len c4]] W (Ans9 (.bool true) W)) := Lib.hid (fun W => by
        have h := leafis_any pa (.slice A4 pf.len c4) W
        rw [show decide (pa.kind ≠ 0) = true by simp [hkd]] at h
        exact h)
      have HKD := Lib.hid hkd
      clear hkd
      go_wp2_with fail
      refine (HLF.out _).mono ?_
      rintro r w5 ⟨rfl, hb5⟩
      have HZ5 := Lib.hid (HQ4.out.2.1.below hb5 HQ4.out.2.1.lt)
      have HB5 := Lib.hid (HB4.out.trans (hb5.mono HB4.out.size))
      clear hb5 s0 s1 s2 s3 s4 s5
      have fz0 : (w5).frozen? ⟨w.heap.size + 2, 0, none⟩ = false := HZ5.out.frozen 0
      have fq0 := (HZ5.out.cell 0).trans rfl
      have fz1 : (w5).frozen? ⟨w.heap.size + 2, 1, none⟩ = false := HZ5.out.frozen 1
      have fq1 := (HZ5.out.cell 1).trans rfl
      have fz2 : (w5).frozen? ⟨w.heap.size + 2, 2, none⟩ = false := HZ5.out.frozen 2
      have fq2 := (HZ5.out.cell 2).trans rfl
      have fz3 : (w5).frozen? ⟨w.heap.size + 2, 3, none⟩ = false := HZ5.out.frozen 3
      have fq3 := (HZ5.out.cell 3).trans rfl
      have fz4 : (w5).frozen? ⟨w.heap.size + 2, 4, none⟩ = false := HZ5.out.frozen 4
      have fq4 := (HZ5.out.cell 4).trans rfl
      have fz5 : (w5).frozen? ⟨w.heap.size + 2, 5, none⟩ = false := HZ5.out.frozen 5
      have fq5 := (HZ5.out.cell 5).trans rfl
      have RZ : Hid (Blk (set6 w5 (w.heap.size + 2) (.string ⟨#[]⟩) (.string ⟨#[]⟩) (.int .i64 0) (.int .u64 0) (.string ⟨#[]⟩) (.slice none 0 0)) (w.heap.size + 2) 27 #[.string ⟨#[]⟩, .string ⟨#[]⟩, .int .i64 0, .int .u64 0, .string ⟨#[]⟩, .slice none 0 0]) := Lib.hid (HZ5.out.set6 _ _ _ _ _ _)
      have HQ : Hid (SetR a y f yf l w (.returned (.tuple #[.agg #[.string ⟨#[]⟩, .string ⟨#[]⟩, .int .i64 0, .int .u64 0, .string ⟨#[]⟩, .slice none 0 0], .int .i64 30])) (set6 w5 (w.heap.size + 2) (.string ⟨#[]⟩) (.string ⟨#[]⟩) (.int .i64 0) (.int .u64 0) (.string ⟨#[]⟩) (.slice none 0 0))) := Lib.hid (setR_no HLAST.out (.inr ⟨(pa, pf), HGP.out, HKD.out⟩) (zero_tree HB5.out (by omega)))
      go_wp2
      refine bodyPost_ret (res_ct9 rfl _ _ (w.heap.size + 2) 27 _ (0, 0) _ rfl RZ.out Try.underlying27 rfl (by kernel_rfl)) rfl ?_
      exact HQ.out
theorem setT (W0 : World) : SetTC W0 := by
  intro x y l cs ds v w hx hy hv hf hg _ hl _
  obtain ⟨A, c, rfl, hk⟩ := hx.shape
  obtain ⟨Ay, cy, rfl, hky⟩ := hy.shape
  obtain ⟨B, m, rfl⟩ := hv.shape
  obtain ⟨a, f⟩ := x
  obtain ⟨y, yf⟩ := y
  cases hn : l.length with
  | zero =>
    have e : l = [] := List.eq_nil_of_length_eq_zero hn
    subst e
    have h := dset_nil a y f yf A Ay B c cy m w
    have e2 : SetX (a, f) [] (y, yf) = (noN, 1) := by unfold SetX; simp
    rw [e2]
    exact h
  | succ n =>
    rw [hn] at hv
    obtain ⟨sl, hs⟩ : ∃ s, l[n]? = some s := ⟨_, List.getElem?_eq_getElem (by omega)⟩
    by_cases heq : stp y = sl
    · exact dset_go a y f yf A Ay B c cy m n l sl w hk hky hf hg hv hs hl heq
    · have h := dset_arg a y f yf A Ay B c cy m n l sl w hv hs hl heq
      have e2 : SetX (a, f) l (y, yf) = (noN, 1) := by
        unfold SetX
        rw [if_pos]
        rw [List.getLast?_eq_getElem?, hn, Nat.add_sub_cancel, hs]
        simp only [ne_eq, Option.some.injEq]
        exact fun e => heq e.symm
      rw [e2]
      exact h
end Go.Proofs.Ytgipnemcmiohlaa


/- PatRefD PatOnc Law17B PatRefE -/
import Derived.Test.YthmobcaidhgeaaaEM14
set_option linter.unusedSimpArgs false
set_option linter.unusedVariables false
set_option maxRecDepth 100000
set_option maxHeartbeats 8000000
namespace Go.Proofs.Ythmobcaidhgeaaa
open Go.RowKit
theorem rone17_any (d : Nat → Prop) (n : Nd) (e : EdD) (cs ds : List Value) (w : World) (hd : UndZ d w) (hn : LieZ d w cs n) (he : EdS d w ds e) (hf : n.2.size ≤ 1000000) (hp : e.node.2.size ≤ 1000000) (ho : e.old.2.size ≤ 1000000) (hl : e.way.length ≤ 1000000) :
  Calls Try.prog 11 #[.agg cs.toArray, .agg ds.toArray] w (PTreZ d (oneX n e).1 (.int .i64 ((oneX n e).2 : Int)) w) := by
 obtain ⟨a, f⟩ := n
 obtain ⟨k, l, ⟨p, pf⟩, ⟨o, og⟩⟩ := e
 obtain ⟨A, c, rfl, hr⟩ := hn.shape
 obtain ⟨B, m, P, pc, O, oc, rfl, h1, h2, h3⟩ := he.shape
 have hw : WayV w.heap.size w (.slice B l.length m) l := (h1.keep (fun _ _ => rfl) hd).v
 have hpl : LieZ d w (ndC p (.slice P pf.len pc)) (p, pf) := LieZ.make h2
 have hol : LieZ d w (ndC o (.slice O og.len oc)) (o, og) := LieZ.make h3
 by_cases k1 : k = 1
 ·obtain rfl := k1
  by_cases h0 : l = []
  ·exact rone17_nil1 a p o f pf og A P O B c pc oc m l d w hd hn hw hpl hol hf hp ho hl h0
  cases hh : hasX p l with
  | false => exact rone17_1a a p o f pf og A P O B c pc oc m l d w hd hn hw hpl hol hf hp ho hl h0 hh
  | true =>
   cases hi : (GetX (a, f) l).2 with
   | true => exact rone17_1b a p o f pf og A P O B c pc oc m l d w hd hn hw hpl hol hf hp ho hl h0 hh hi
   | false => exact rone17_1c a p o f pf og A P O B c pc oc m l d w hd hn hw hpl hol hf hp ho hl h0 hh hi
 by_cases k2 : k = 2
 ·obtain rfl := k2
  by_cases h0 : l = []
  ·exact rone17_nil2 a p o f pf og A P O B c pc oc m l d w hd hn hw hpl hol hf hp ho hl h0
  cases hh : hasX o l with
  | false => exact rone17_2a a p o f pf og A P O B c pc oc m l d w hd hn hw hpl hol hf hp ho hl h0 hh
  | true =>
   cases hi : (GetX (a, f) l).2 with
   | false => exact rone17_2b a p o f pf og A P O B c pc oc m l d w hd hn hw hpl hol hf hp ho hl h0 hh hi
   | true =>
    by_cases hs : (GetX (a, f) l).1 = (o, og)
    ·exact rone17_2d a p o f pf og A P O B c pc oc m l d w hd hn hw hpl hol hf hp ho hl h0 hh hi hs
    ·exact rone17_2c a p o f pf og A P O B c pc oc m l d w hd hn hw hpl hol hf hp ho hl h0 hh hi hs
 by_cases k3 : k = 3
 ·obtain rfl := k3
  by_cases h0 : l = []
  ·exact rone17_nil3 a p o f pf og A P O B c pc oc m l d w hd hn hw hpl hol hf hp ho hl h0
  cases hh : hasX p l with
  | false => exact rone17_3a a p o f pf og A P O B c pc oc m l d w hd hn hw hpl hol hf hp ho hl h0 hh
  | true =>
   cases hg : hasX o l with
   | false => exact rone17_3b a p o f pf og A P O B c pc oc m l d w hd hn hw hpl hol hf hp ho hl h0 hh hg
   | true =>
    cases hi : (GetX (a, f) l).2 with
    | false => exact rone17_3c a p o f pf og A P O B c pc oc m l d w hd hn hw hpl hol hf hp ho hl h0 hh hg hi
    | true =>
     by_cases hs : (GetX (a, f) l).1 = (o, og)
     ·by_cases hpk : p.kind = 0
      ·exact rone17_3e a p o f pf og A P O B c pc oc m l d w hd hn hw hpl hol hf hp ho hl h0 hh hg hi hs hpk
      by_cases hok : o.kind = 0
      ·exact rone17_3f a p o f pf og A P O B c pc oc m l d w hd hn hw hpl hol hf hp ho hl h0 hh hg hi hs hpk hok
      ·exact rone17_3g a p o f pf og A P O B c pc oc m l d w hd hn hw hpl hol hf hp ho hl h0 hh hg hi hs hpk hok
     ·exact rone17_3d a p o f pf og A P O B c pc oc m l d w hd hn hw hpl hol hf hp ho hl h0 hh hg hi hs
 exact rone17_kind a p o f pf og A P O B c pc oc m l d k w hd hn hw hpl hol hf hp ho hl k1 k2 k3
theorem SetX_few17 (x y : Nd) (l : List Stp) : (SetX x l y).1.2.size ≤ x.2.size + y.2.size + 1 := by
 by_cases h : okSet x l y
 ·rw [SetX_is h]
  have := set_size l x h
  simp only [sizeX] at this
  simp only
  omega
 ·have hz : (SetX x l y).1 = noN := by
   unfold SetX
   by_cases h1 : l.getLast? = some (stp y.1)
   ·rw [if_neg (by simp [h1])]
    cases hp : getX x l.dropLast with
    | none => rfl
    | some p =>
     by_cases hk : p.1.kind = 0
     ·exact absurd ((ok_iff l x).2 ⟨h1, p, hp, hk⟩) h
     ·simp [hk]
   ·rw [if_pos h1]
  rw [hz]
  simp [Fr.size]
theorem CutX_few17 (x : Nd) (l : List Stp) : (CutX x l).1.2.size ≤ x.2.size := by
 unfold CutX
 split
 ·simp [Fr.size]
 ·rename_i hl
  cases h : getX x l with
  | none => simp [Fr.size]
  | some z => have := cut_size l x z hl h; simp only [sizeX] at this; simp only; omega
theorem one_size (n : Nd) (e : EdD) : (oneX n e).1.2.size ≤ n.2.size + e.node.2.size + 1 := by
 unfold oneX
 split
 ·simp [Fr.size]
 split
 ·simp [Fr.size]
 split
 ·simp [Fr.size]
 split
 ·simp [Fr.size]
 split
 ·have := CutX_few17 n e.way; omega
 ·exact SetX_few17 n e.node e.way
theorem run_size : ∀ (l : List EdD) (n : Nd) (i : Nat), (∀ e ∈ l, e.node.2.size ≤ 600) → (runXE n l i).1.2.size ≤ n.2.size + l.length * 601 := by
 intro l
 induction l with
 | nil => intro n i _; simp [runXE]
 | cons x l ih =>
  intro n i h
  unfold runXE
  have h1 := one_size n x
  have h2 := h x (List.mem_cons_self ..)
  split
  ·have h3 := ih (oneX n x).1 (i + 1) (fun e he => h e (List.mem_cons_of_mem _ he))
   rw [List.length_cons]
   omega
  ·simp [Fr.size]
theorem rgt_one {n m : Nd} {x : EdD} (hr : rgtX n = true) (hx : rgtX x.node = true) (h : oneX n x = (m, 0)) : rgtX m = true := by
 rcases oneX_parts h with ⟨_, _, h3⟩ | ⟨_, _, h2, h3⟩ | ⟨_, _, _, _, _, h3⟩
 ·have hk : okSet n x.way x.node := SetX_ok.1 (by rw [h3])
  rw [SetX_is hk] at h3
  injection h3 with h3 _
  rw [← h3]; exact set_right hx _ _ hr hk
 ·obtain ⟨hk, z, hz⟩ := CutX_ok (x := n) (l := x.way) (by rw [h3])
  rw [CutX_is hk hz] at h3
  injection h3 with h3 _
  rw [← h3]; exact cut_right _ _ _ hr hk hz
 ·have hk : okSet n x.way x.node := SetX_ok.1 (by rw [h3])
  rw [SetX_is hk] at h3
  injection h3 with h3 _
  rw [← h3]; exact set_right hx _ _ hr hk
section
attribute [local go_sem] Oper.semAt_some
def LieX (W : World) (bz : Nat) (cs : List Value) (x : Nd) : Prop := FrN NdT 6 5 W (fun g => g < W.heap.size ∧ g ≠ bz) noB cs x.1 x.2
theorem LieP.avoid {D Bs bz : Nat} {W : World} {cs : List Value} {x : Nd} (h : LieP D Bs W cs x) (h1 : D ≤ bz) (h2 : bz < Bs) (h3 : D ≤ W.heap.size) : LieX W bz cs x :=
 FrN.mono stay_nd h (fun g hg => by rcases hg with hg | hg <;> exact ⟨by omega, by omega⟩) (fun _ h => h)
theorem LieN.avoid {W : World} {cs : List Value} {x : Nd} (h : LieN W cs x) (o : Obj) : LieX (W.alloc o) W.heap.size cs x :=
 FrN.kept stay_nd h (fun g hg => Below.heap_alloc W o g hg) (fun g hg => ⟨by simp; exact Nat.lt_succ_of_lt hg, Nat.ne_of_lt hg⟩) (fun _ h => h.elim) (fun _ h => h)
theorem LieX.set6 {W : World} {bz : Nat} {cs : List Value} {x : Nd} (h : LieX W bz cs x) (x0 x1 x2 x3 x4 x5 : Value) : LieN (set6 W bz x0 x1 x2 x3 x4 x5) cs x :=
 FrN.kept stay_nd h (fun g hg => set6_other hg.2) (fun g hg => by show g < _; rw [set6_size]; exact hg.1) (fun _ h => h.elim) (fun _ h => h)
theorem blk_at17 {w : World} {g : Nat} (h : w.heap.size = g) (t : TypeId) (cs : Array Value) : Blk (w.alloc (.cells cs t)) g t cs := by subst h; exact Blk.new w t cs
inductive Veil17 (P : Prop) : Prop
 | mk (h : P)
theorem Veil17.out {P : Prop} (h : Veil17 P) : P := by cases h; assumption
end
section
attribute [local go_sem] Oper.semAt_some
theorem res_ctt17 {P : Program} {fn : Func} {p u v : Tmp} {ty : TypeId} (h : fn.results = #[.cell p ty, .tmp u, .tmp v]) (tmps : Array Value) (w : World) (g : Nat) (t : TypeId) (cs : Array Value) (fr : Nat × Nat) (d : TypeDesc)
  (hp : tmps.getD p undef = .pointer (some ⟨g, 0, none⟩)) (hg : w.heap[g]? = some (.cells cs t fr))
  (hu : P.underlying ty = some d) (hd : (match d with | .struct _ | .array _ _ => true | _ => false) = true) (hi : (P.info? ty).map (·.size) = some cs.size) :
  (results fn tmps).run P w = .ok (.tuple #[.agg cs, tmps.getD u undef, tmps.getD v undef]) w := by
 have hp' : tmps[p]?.getD undef = .pointer (some ⟨g, 0, none⟩) := by simpa using hp
 simp [results, h, hp', asAddr, Sem.run_bind, Result.andThen, run_loadVar_row w g t ty cs fr d hg hu hd hi]
abbrev Zn17 (w W : World) : Nat → Prop := fun g => g < w.heap.size ∨ (w.heap.size + 2 ≤ g ∧ g < W.heap.size)
def ApM (S : Nat → Prop) (w : World) (bz : Nat) (a : NdD) (f : NdF) (A : Option Addr) (c : Nat) (W : World) : Prop := Below w.heap.size w W ∧ Blk W bz 27 (cN a (.slice A f.len c)) ∧ LieQ S w.heap.size W (ndC a (.slice A f.len c)) (a, f)
theorem apM_al {S : Nat → Prop} {w W : World} {a : NdD} {f : NdF} {A : Option Addr} {c : Nat} (hS : UndZ S w) (h1 : Below w.heap.size w W) (h2 : LieQ S w.heap.size W (ndC a (.slice A f.len c)) (a, f)) : ApM S w W.heap.size a f A c (W.alloc (.cells (cN a (.slice A f.len c)) 27)) :=
 have hb : Below W.heap.size W (W.alloc (.cells (cN a (.slice A f.len c)) 27)) := bAl
 ⟨h1.trans (hb.mono h1.size), Blk.new _ _ _, h2.below hb (und_le hS h1.size)⟩
theorem apM_of {S : Nat → Prop} {w W : World} {bz B : Nat} {a : NdD} {f : NdF} {A : Option Addr} {c : Nat} (hS : UndZ S w) (h1 : Below w.heap.size w W) (h6 : Blk W bz 27 #[.string ⟨#[]⟩, .string ⟨#[]⟩, .int .i64 0, .int .u64 0, .string ⟨#[]⟩, .slice none 0 0]) (h7 : LieQ S B W (ndC a (.slice A f.len c)) (a, f)) (hz : w.heap.size ≤ bz) (hB : bz < B) : ApM S w bz a f A c (set6 W bz (.string (txt a.name)) (.string (txt a.key)) (.int .i64 a.kind) (.int .u64 (a.num : Int)) (.string (txt a.text)) (.slice A f.len c)) :=
 ⟨h1.trans (set6_below hz), h6.set6 _ _ _ _ _ _, (h7.set6 (fun h => by have := hS _ h; omega) hB _ _ _ _ _ _).after (by omega)⟩
def RunN17 (x : Nd × Nat × Nat) (w : World) (r : Ending) (w' : World) : Prop := ∃ cs, r = .returned (.tuple #[.agg cs.toArray, .int .i64 (x.2.1 : Int), .int .i64 (x.2.2 : Int)]) ∧ LieN w' cs x.1 ∧ Below w.heap.size w w'
theorem rapply17_any (n : Nd) (l : List EdD) (cs : List Value) (v : Value) (w : World) (hn : LieN w cs n) (hv : EdsV (Bel w) w v l) (hF : FewR n l) :
  Calls Try.prog 14 #[.agg cs.toArray, v] w (RunN17 (runXE n l 0) w) := by
 obtain ⟨a, f⟩ := n
 obtain ⟨A, c, rfl, hr⟩ := LieB.shape hn
 obtain ⟨B, d, rfl⟩ := hv.shape
 have h1 : Blk ((w.alloc (.cells (cN a (.slice A f.len c)) 27)).alloc (.cells #[.string ⟨#[]⟩, .string ⟨#[]⟩, .int .i64 0, .int .u64 0, .string ⟨#[]⟩, .slice none 0 0] 27)) w.heap.size 27 (cN a (.slice A f.len c)) := (Blk.new _ _ _).alloc _
 have h2 : Blk ((w.alloc (.cells (cN a (.slice A f.len c)) 27)).alloc (.cells #[.string ⟨#[]⟩, .string ⟨#[]⟩, .int .i64 0, .int .u64 0, .string ⟨#[]⟩, .slice none 0 0] 27)) (w.heap.size + 1) 27 #[.string ⟨#[]⟩, .string ⟨#[]⟩, .int .i64 0, .int .u64 0, .string ⟨#[]⟩, .slice none 0 0] := by
  have h := Blk.new (w.alloc (.cells (cN a (.slice A f.len c)) 27)) 27 #[.string ⟨#[]⟩, .string ⟨#[]⟩, .int .i64 0, .int .u64 0, .string ⟨#[]⟩, .slice none 0 0]
  rwa [show (w.alloc (.cells (cN a (.slice A f.len c)) 27)).heap.size = w.heap.size + 1 by simp] at h
 have h3 : Below w.heap.size w ((w.alloc (.cells (cN a (.slice A f.len c)) 27)).alloc (.cells #[.string ⟨#[]⟩, .string ⟨#[]⟩, .int .i64 0, .int .u64 0, .string ⟨#[]⟩, .slice none 0 0] 27)) := bAl.alloc (by simp) _
 have h4 : LieZ (Zn17 w ((w.alloc (.cells (cN a (.slice A f.len c)) 27)).alloc (.cells #[.string ⟨#[]⟩, .string ⟨#[]⟩, .int .i64 0, .int .u64 0, .string ⟨#[]⟩, .slice none 0 0] 27))) ((w.alloc (.cells (cN a (.slice A f.len c)) 27)).alloc (.cells #[.string ⟨#[]⟩, .string ⟨#[]⟩, .int .i64 0, .int .u64 0, .string ⟨#[]⟩, .slice none 0 0] 27)) (ndC a (.slice A f.len c)) (a, f) := LieZ.keep (show LieZ (fun g => g < w.heap.size) w _ _ from hn) (fun g hg => h3.block g hg) (fun g hg => .inl hg)
 have HX := hHd h1
 have HZ := hHd h2
 have HB := hHd h3
 have HL := hHd h4
 have HV := hHd hv
 have HF := hHd hF
 have l0 : l.length ≤ 600 := hF.2.1
 have HS : Hid (f.size ≤ 400000) := hHd hF.1
 clear hn hv hF hr h1 h2 h3 h4
 go_enter Try.func14, Try.ntmps14
 go_wp2
 go_loopw [7] (fun vi wr => ∃ (j : Nat) (ma : NdD) (mf : NdF) (M : Option Addr) (mc : Nat), j ≤ l.length ∧ vi = .int .i64 (j : Int) ∧ Hid (runXE (a, f) l 0 = runXE (ma, mf) (l.drop j) j) ∧ Hid (mf.size ≤ 400000 + j * 601) ∧ Hid (Blk wr w.heap.size 27 (cN ma (.slice M mf.len mc))) ∧ Hid (Blk wr (w.heap.size + 1) 27 #[.string ⟨#[]⟩, .string ⟨#[]⟩, .int .i64 0, .int .u64 0, .string ⟨#[]⟩, .slice none 0 0]) ∧ Hid (LieZ (Zn17 w wr) wr (ndC ma (.slice M mf.len mc)) (ma, mf)) ∧ Hid (Below w.heap.size w wr)) (fun vi _ => l.length - (intOf vi).toNat)
 case atStart => exact ⟨0, a, f, A, c, Nat.zero_le _, rfl, hHd rfl, hHd (by have := HS.out; omega), HX, HZ, HL, HB⟩
 case round =>
  clear HX HZ HB HL HS
  obtain ⟨j, ma, mf, M, mc, hj, rfl, HR, HS, HX, HZ, HL, HB⟩ := hrel
  obtain ⟨w7, hw7⟩ : ∃ w7, w7 = wr := ⟨_, rfl⟩
  subst hw7
  have i1 : (0 : Int) ≤ (j : Int) := by omega
  have HU : Hid (UndZ (Zn17 w w7) w7) := hHd (fun g hg => by rcases hg with h | h; (have := HB.out.size; omega); exact h.2)
  by_cases hlt : j < l.length
  ·have i2 : (j : Int) < (l.length : Int) := by omega
   obtain ⟨x, hx⟩ : ∃ x, l[j]? = some x := ⟨_, List.getElem?_eq_getElem hlt⟩
   have hdr : l.drop j = x :: l.drop (j + 1) := by
    rw [List.drop_eq_getElem_cons hlt]
    have h9 := List.getElem?_eq_getElem hlt
    rw [hx] at h9
    injection h9 with h9
    rw [h9]
   obtain ⟨z1, z2, z3⟩ := HF.out.2.2 x (List.mem_of_getElem? hx)
   obtain ⟨g9, o9, Aw, cw, An, cn, Ao, co, rfl, -, -, hg9, hw9, hn9, ho9, hcl⟩ := HV.out.at hx
   obtain ⟨xk, xw, ⟨xp, xpf⟩, ⟨xo, xof⟩⟩ := x
   simp only at z1 z2 z3 hw9 hn9 ho9 hcl
   have HE7 : Hid (EdS (Zn17 w w7) w7 (edC xk (.slice Aw xw.length cw) xp (.slice An xpf.len cn) xo (.slice Ao xof.len co)) ⟨xk, xw, (xp, xpf), (xo, xof)⟩) := hHd ⟨_, _, _, rfl, hw9.keep (fun g hg => HB.out.block g hg) (fun g hg => .inl hg), RowS.keep hn9 (fun g hg => HB.out.block g hg) (fun g hg => .inl hg), RowS.keep ho9 (fun g hg => HB.out.block g hg) (fun g hg => .inl hg)⟩
   have HG9 : Hid (g9 < w7.heap.size) := hHd (Nat.lt_of_lt_of_le hg9 HB.out.size)
   have HCL : Hid (∀ i u, (edC xk (.slice Aw xw.length cw) xp (.slice An xpf.len cn) xo (.slice Ao xof.len co))[i]? = some u → w7.cell? ⟨g9, o9 + j * 14 + i, none⟩ = some u) := hHd (fun i u hu => (HB.out.cell (p := ⟨g9, o9 + j * 14 + i, none⟩) hg9).trans (hcl i u hu))
   obtain ⟨E, hE⟩ : ∃ E, E = (oneX (ma, mf) ⟨xk, xw, (xp, xpf), (xo, xof)⟩).2 := ⟨_, rfl⟩
   obtain ⟨⟨ra, rf⟩, hR⟩ : ∃ R, R = (oneX (ma, mf) ⟨xk, xw, (xp, xpf), (xo, xof)⟩).1 := ⟨_, rfl⟩
   have HR2 : Hid (runXE (a, f) l 0 = if E = 0 then runXE (ra, rf) (l.drop (j + 1)) (j + 1) else (noN, E, j)) := hHd (by rw [HR.out, hdr]; simp only [runXE]; rw [← hE, ← hR])
   have HS2 : Hid (rf.size ≤ 400000 + (j + 1) * 601) := hHd (by
    have h := one_size (ma, mf) ⟨xk, xw, (xp, xpf), (xo, xof)⟩
    rw [← hR] at h
    simp only at h
    have h5 := HS.out
    omega)
   have HO : ∀ W, Below w7.heap.size w7 W → Hid (Calls Try.prog 11 #[.agg (cN ma (.slice M mf.len mc)), .agg #[.int .i64 xk, .slice Aw xw.length cw, .string (txt xp.name), .string (txt xp.key), .int .i64 xp.kind, .int .u64 (xp.num : Int), .string (txt xp.text), .slice An xpf.len cn, .string (txt xo.name), .string (txt xo.key), .int .i64 xo.kind, .int .u64 (xo.num : Int), .string (txt xo.text), .slice Ao xof.len co]] W (PTreZ (Zn17 w w7) (ra, rf) (.int .i64 (E : Int)) W)) := fun W hW => hHd (by
    have h5 := HS.out
    have h := rone17_any (Zn17 w w7) (ma, mf) ⟨xk, xw, (xp, xpf), (xo, xof)⟩ (ndC ma (.slice M mf.len mc)) _ W (und_le HU.out hW.size) (HL.out.under hW HU.out) (EdS.keep HE7.out (fun g hg => hW.block g (HU.out g hg)) (fun _ h => h)) (by simp only; omega) (by simp only; omega) (by simp only; omega) (by simp only; omega)
    rw [← hE, ← hR] at h
    exact h)
   have HMW : Hid (Blk w7.drew w.heap.size 27 (cN ma (.slice M mf.len mc))) := hHd (HX.out.below (Below.refl _ _).drew HX.out.lt)
   have n0 : j < l.length := hlt
   clear z1 z2 z3 hw9 hn9 ho9 hcl hx hg9 hE hR hdr hlt
   go_upto_region 4 with (fail)
   go_cut [8, 9] (fun t8 t9 wx => ∃ (b8 : Nat) (A8 : Option Addr) (c8 : Nat), t8 = .pointer (some ⟨b8, 0, none⟩) ∧ t9 = .int .i64 (E : Int) ∧ Hid (ApM (Zn17 w w7) w7 b8 ra rf A8 c8 wx))
   case first =>
    have HWW : Hid (Below w7.heap.size w7 w7.drew) := hHd (Below.refl _ _).drew
    have HCW : Hid (∀ i u, (edC xk (.slice Aw xw.length cw) xp (.slice An xpf.len cn) xo (.slice Ao xof.len co))[i]? = some u → w7.drew.cell? ⟨g9, o9 + j * 14 + i, none⟩ = some u) := HCL
    refine wp_region_noPanic ?_
    refine wp_region_held_drew (S := fun _ => True) (by kernel_rfl) trivial (fun hS => ?_)
    refine held_more (S' := fun w' => Blk w' w.heap.size 27 (cN ma (.slice M mf.len mc)) ∧ (∀ i u, (edC xk (.slice Aw xw.length cw) xp (.slice An xpf.len cn) xo (.slice Ao xof.len co))[i]? = some u → w'.cell? ⟨g9, o9 + j * 14 + i, none⟩ = some u)) (fun _ _ => trivial) _ _ _ _ ?_
    replace hS := And.intro HMW.out HCW.out
    refine tkH 0 hS ?_ (hy := fun w hSw => by obtain ⟨q0, q1, q2, q3, q4, q5⟩ := cl6 hSw.1; (go_simp <;> with_reducible rfl))
    refine tkH 1 hS ?_
    refine tkH 2 hS ?_
    refine tkH 3 hS ?_
    refine tkH 4 hS ?_ (hy := fun w hSw => by have p0 : w.cell? ⟨g9, o9 + j * 14, none⟩ = _ := hSw.2 0 _ rfl; have p1 := hSw.2 1 _ rfl; have p2 := hSw.2 2 _ rfl; have p3 := hSw.2 3 _ rfl; have p4 := hSw.2 4 _ rfl; have p5 := hSw.2 5 _ rfl; have p6 := hSw.2 6 _ rfl; have p7 := hSw.2 7 _ rfl; have p8 := hSw.2 8 _ rfl; have p9 := hSw.2 9 _ rfl; have p10 := hSw.2 10 _ rfl; have p11 := hSw.2 11 _ rfl; have p12 := hSw.2 12 _ rfl; have p13 := hSw.2 13 _ rfl; (go_simp <;> with_reducible rfl))
    refine rdy [5, 9] (rdC (fun K hK => ?str_0) (rdC (fun K hK => ?str_1) .nil))
    case' str_0 =>
     go_simp
     refine (HO _ HWW.out).out.mono ?_
     intro r w16 hr
     obtain ⟨A8, c8, rfl, hl9, hb⟩ := hr.flat
     have HL9 := hHd (hl9.after HWW.out.size)
     have HWW := hHd (HWW.out.trans (hb.mono HWW.out.size))
     have HS7 := hHd (hS.1.below hb hS.1.lt)
     clear hb hr hl9
     go_wp2_with fail
     refine hK.out _ _ ?sr_0 (fun hS => ?_)
     case sr_0 => (exact ⟨HS7.out, fun i u hu => (HWW.out.cell (p := ⟨g9, o9 + j * 14 + i, none⟩) HG9.out).trans (HCL.out i u hu)⟩)
     clear hK K
     (try simp only [Act.put, layS])
     refine tkH 6 hS ?_
     refine tkH 7 hS ?_
     refine tkH 8 hS ?_
     refine rdy1 9 fun K hK => ?_
     have HZN : Hid (Blk ((w16).alloc (.cells #[.string ⟨#[]⟩, .string ⟨#[]⟩, .int .i64 0, .int .u64 0, .string ⟨#[]⟩, .slice none 0 0] 27)) (w16.heap.size) 27 #[.string ⟨#[]⟩, .string ⟨#[]⟩, .int .i64 0, .int .u64 0, .string ⟨#[]⟩, .slice none 0 0]) := hHd (blk_at17 rfl _ _)
     have HZB : Hid (w7.heap.size ≤ (w16.heap.size)) := hHd (by first | exact Nat.le_refl _ | exact HWW.out.size)
     have hb : Below (w16).heap.size (w16) ((w16).alloc (.cells #[.string ⟨#[]⟩, .string ⟨#[]⟩, .int .i64 0, .int .u64 0, .string ⟨#[]⟩, .slice none 0 0] 27)) := bAl
     have HQ9 := Veil17.mk (apM_al HU.out HWW.out HL9.out)
     have HWW := hHd (HWW.out.trans (hb.mono HWW.out.size))
     clear hb
     go_simp
     refine hK.out _ _ ?sr_2 (fun hS => ?_)
     case sr_2 => (exact ⟨hS.1.below bAl hS.1.lt, fun i u hu => (HWW.out.cell (p := ⟨g9, o9 + j * 14 + i, none⟩) HG9.out).trans (HCL.out i u hu)⟩)
     clear hK K
     (try simp only [Act.put, layS])
     refine rdy1 10 fun K hK => ?_
     have g0 := HZN.out.frozen 0
     have g1 := HZN.out.frozen 1
     have g2 := HZN.out.frozen 2
     have g3 := HZN.out.frozen 3
     have g4 := HZN.out.frozen 4
     have g5 := HZN.out.frozen 5
     obtain ⟨k0, k1, k2, k3, k4, k5⟩ := cl6 HZN.out
     clear HWW HZN HL9
     go_simp
     refine hK.out _ _ ?sr_3 (fun hS => ?_)
     case sr_3 => (refine ⟨?_, fun i u hu => (HQ9.out.1.cell (p := ⟨g9, o9 + j * 14 + i, none⟩) HG9.out).trans (HCL.out i u hu)⟩; exact (HQ9.out.1.block w.heap.size HX.out.lt).trans HX.out)
     clear hK K
     (try simp only [Act.put, layS])
     refine tkH 11 hS ?_
     refine wpAnyH_done (by kernel_rfl) ?_ _
     refine NoPanic.normal ?_
    case' str_1 =>
     have HZN : Hid (Blk ((w7.drew).alloc (.cells #[.string ⟨#[]⟩, .string ⟨#[]⟩, .int .i64 0, .int .u64 0, .string ⟨#[]⟩, .slice none 0 0] 27)) (w7.heap.size) 27 #[.string ⟨#[]⟩, .string ⟨#[]⟩, .int .i64 0, .int .u64 0, .string ⟨#[]⟩, .slice none 0 0]) := hHd (blk_at17 rfl _ _)
     have HZB : Hid (w7.heap.size ≤ (w7.heap.size)) := hHd (by first | exact Nat.le_refl _ | exact HWW.out.size)
     have hb : Below (w7.drew).heap.size (w7.drew) ((w7.drew).alloc (.cells #[.string ⟨#[]⟩, .string ⟨#[]⟩, .int .i64 0, .int .u64 0, .string ⟨#[]⟩, .slice none 0 0] 27)) := bAl
     have HWW := hHd (HWW.out.trans (hb.mono HWW.out.size))
     clear hb
     go_simp
     refine hK.out _ _ ?sr_1 (fun hS => ?_)
     case sr_1 => (exact ⟨hS.1.below bAl hS.1.lt, fun i u hu => (HWW.out.cell (p := ⟨g9, o9 + j * 14 + i, none⟩) HG9.out).trans (HCL.out i u hu)⟩)
     clear hK K
     (try simp only [Act.put, layS])
     refine rdy1 5 fun K hK => ?_
     go_simp
     refine (HO _ HWW.out).out.mono ?_
     intro r w16 hr
     obtain ⟨A8, c8, rfl, hl9, hb⟩ := hr.flat
     have HL9 := hHd hl9
     have HZL := hHd HZN.out.lt
     have HWW := hHd (HWW.out.trans (hb.mono HWW.out.size))
     have HZN := hHd (HZN.out.below hb HZN.out.lt)
     have HS7 := hHd (hS.1.below hb hS.1.lt)
     clear hb hr hl9
     go_wp2_with fail
     refine hK.out _ _ ?sr_4 (fun hS => ?_)
     case sr_4 => (exact ⟨HS7.out, fun i u hu => (HWW.out.cell (p := ⟨g9, o9 + j * 14 + i, none⟩) HG9.out).trans (HCL.out i u hu)⟩)
     clear hK K
     (try simp only [Act.put, layS])
     refine tkH 6 hS ?_
     refine tkH 7 hS ?_
     refine tkH 8 hS ?_
     refine rdy1 10 fun K hK => ?_
     have HQ9 := Veil17.mk (apM_of HU.out HWW.out HZN.out HL9.out HZB.out HZL.out)
     have g0 := HZN.out.frozen 0
     have g1 := HZN.out.frozen 1
     have g2 := HZN.out.frozen 2
     have g3 := HZN.out.frozen 3
     have g4 := HZN.out.frozen 4
     have g5 := HZN.out.frozen 5
     obtain ⟨k0, k1, k2, k3, k4, k5⟩ := cl6 HZN.out
     clear HWW HZN HL9
     go_simp
     refine hK.out _ _ ?sr_5 (fun hS => ?_)
     case sr_5 => (refine ⟨?_, fun i u hu => (HQ9.out.1.cell (p := ⟨g9, o9 + j * 14 + i, none⟩) HG9.out).trans (HCL.out i u hu)⟩; exact (HQ9.out.1.block w.heap.size HX.out.lt).trans HX.out)
     clear hK K
     (try simp only [Act.put, layS])
     refine tkH 11 hS ?_
     refine wpAnyH_done (by kernel_rfl) ?_ _
     refine NoPanic.normal ?_
    all_goals (go_wp2_with fail; go_meet; exact ⟨_, _, _, rfl, rfl, hHd HQ9.out⟩)
   case rest =>
    obtain ⟨b8, A8, c8, rfl, rfl, Q9⟩ := hcut
    obtain ⟨w9, hw9⟩ : ∃ w9, w9 = wc := ⟨_, rfl⟩
    subst hw9
    have HX9 := hHd (HX.out.below Q9.out.1 HX.out.lt)
    have HZ9 := hHd (HZ.out.below Q9.out.1 HZ.out.lt)
    have HB9 := hHd (HB.out.trans (Q9.out.1.mono HB.out.size))
    have HB7 : Hid (w.heap.size + 2 ≤ w7.heap.size) := hHd HZ.out.lt
    have HL9 : Hid (LieQ (Zn17 w w7) w7.heap.size w9 (ndC ra (.slice A8 rf.len c8)) (ra, rf)) := hHd Q9.out.2.2
    have HY9 : Hid (Blk w9 b8 27 (cN ra (.slice A8 rf.len c8))) := hHd Q9.out.2.1
    have HW9 : Hid (w7.heap.size ≤ w9.heap.size) := hHd Q9.out.1.size
    clear HMW Q9
    by_cases h0 : E = 0
    ·have z0 : ((E : Int) == 0) = true := by simp [h0]
     have z1 : ((E : Int) != 0) = false := by simp [h0]
     have HR3 : Hid (runXE (a, f) l 0 = runXE (ra, rf) (l.drop (j + 1)) (j + 1)) := hHd (by rw [HR2.out, if_pos h0])
     have V9 : Veil17 (Blk (set6 w9 w.heap.size (.string (txt ra.name)) (.string (txt ra.key)) (.int .i64 ra.kind) (.int .u64 (ra.num : Int)) (.string (txt ra.text)) (.slice A8 rf.len c8)) w.heap.size 27 (cN ra (.slice A8 rf.len c8)) ∧ Blk (set6 w9 w.heap.size (.string (txt ra.name)) (.string (txt ra.key)) (.int .i64 ra.kind) (.int .u64 (ra.num : Int)) (.string (txt ra.text)) (.slice A8 rf.len c8)) (w.heap.size + 1) 27 #[.string ⟨#[]⟩, .string ⟨#[]⟩, .int .i64 0, .int .u64 0, .string ⟨#[]⟩, .slice none 0 0] ∧ LieZ (Zn17 w (set6 w9 w.heap.size (.string (txt ra.name)) (.string (txt ra.key)) (.int .i64 ra.kind) (.int .u64 (ra.num : Int)) (.string (txt ra.text)) (.slice A8 rf.len c8))) (set6 w9 w.heap.size (.string (txt ra.name)) (.string (txt ra.key)) (.int .i64 ra.kind) (.int .u64 (ra.num : Int)) (.string (txt ra.text)) (.slice A8 rf.len c8)) (ndC ra (.slice A8 rf.len c8)) (ra, rf) ∧ Below w.heap.size w (set6 w9 w.heap.size (.string (txt ra.name)) (.string (txt ra.key)) (.int .i64 ra.kind) (.int .u64 (ra.num : Int)) (.string (txt ra.text)) (.slice A8 rf.len c8))) := .mk ⟨HX9.out.set6 _ _ _ _ _ _, (set6_other (by omega)).trans HZ9.out, LieZ.keep (show LieZ (fun g => Zn17 w w7 g ∨ (w7.heap.size ≤ g ∧ g < w9.heap.size)) w9 _ _ from HL9.out) (fun g hg => set6_other (by have := HB7.out; rcases hg with (h | h) | h <;> omega)) (fun g hg => by have := HB7.out; have := HW9.out; rcases hg with (h | h) | h; exact .inl h; exact .inr ⟨h.1, by rw [set6_size]; omega⟩; exact .inr ⟨by omega, by rw [set6_size]; exact h.2⟩), HB9.out.trans (set6_below (Nat.le_refl _))⟩
     obtain ⟨y0, y1, y2, y3, y4, y5⟩ := cl6 HY9.out
     have fz0 : (w9).frozen? ⟨w.heap.size, 0, none⟩ = false := HX9.out.frozen 0
     have fq0 := (HX9.out.cell 0).trans rfl
     have fz1 : (w9).frozen? ⟨w.heap.size, 1, none⟩ = false := HX9.out.frozen 1
     have fq1 := (HX9.out.cell 1).trans rfl
     have fz2 : (w9).frozen? ⟨w.heap.size, 2, none⟩ = false := HX9.out.frozen 2
     have fq2 := (HX9.out.cell 2).trans rfl
     have fz3 : (w9).frozen? ⟨w.heap.size, 3, none⟩ = false := HX9.out.frozen 3
     have fq3 := (HX9.out.cell 3).trans rfl
     have fz4 : (w9).frozen? ⟨w.heap.size, 4, none⟩ = false := HX9.out.frozen 4
     have fq4 := (HX9.out.cell 4).trans rfl
     have fz5 : (w9).frozen? ⟨w.heap.size, 5, none⟩ = false := HX9.out.frozen 5
     have fq5 := (HX9.out.cell 5).trans rfl
     clear HX9 HZ9 HL9 HY9 HB9 h0 HR HX HZ HL HB HR2
     go_wp2
     go_roundw
     case rel => exact ⟨j + 1, ra, rf, A8, c8, by omega, by go_num, HR3, HS2, hHd V9.out.1, hHd V9.out.2.1, hHd V9.out.2.2.1, hHd V9.out.2.2.2⟩
     case measure => simp [intOf]; omega
    ·have z0 : ((E : Int) == 0) = false := by simp [h0]
     have z1 : ((E : Int) != 0) = true := by simp [h0]
     have HR3 : Hid (runXE (a, f) l 0 = (noN, E, j)) := hHd (by rw [HR2.out, if_neg h0])
     have V9 : Veil17 (Blk (set6 w9 (w.heap.size + 1) (.string ⟨#[]⟩) (.string ⟨#[]⟩) (.int .i64 0) (.int .u64 0) (.string ⟨#[]⟩) (.slice none 0 0)) (w.heap.size + 1) 27 #[.string ⟨#[]⟩, .string ⟨#[]⟩, .int .i64 0, .int .u64 0, .string ⟨#[]⟩, .slice none 0 0] ∧ Below w.heap.size w (set6 w9 (w.heap.size + 1) (.string ⟨#[]⟩) (.string ⟨#[]⟩) (.int .i64 0) (.int .u64 0) (.string ⟨#[]⟩) (.slice none 0 0))) := .mk ⟨HZ9.out.set6 _ _ _ _ _ _, HB9.out.trans (set6_below (Nat.le_succ _))⟩
     have fz0 : (w9).frozen? ⟨w.heap.size + 1, 0, none⟩ = false := HZ9.out.frozen 0
     have fq0 := (HZ9.out.cell 0).trans rfl
     have fz1 : (w9).frozen? ⟨w.heap.size + 1, 1, none⟩ = false := HZ9.out.frozen 1
     have fq1 := (HZ9.out.cell 1).trans rfl
     have fz2 : (w9).frozen? ⟨w.heap.size + 1, 2, none⟩ = false := HZ9.out.frozen 2
     have fq2 := (HZ9.out.cell 2).trans rfl
     have fz3 : (w9).frozen? ⟨w.heap.size + 1, 3, none⟩ = false := HZ9.out.frozen 3
     have fq3 := (HZ9.out.cell 3).trans rfl
     have fz4 : (w9).frozen? ⟨w.heap.size + 1, 4, none⟩ = false := HZ9.out.frozen 4
     have fq4 := (HZ9.out.cell 4).trans rfl
     have fz5 : (w9).frozen? ⟨w.heap.size + 1, 5, none⟩ = false := HZ9.out.frozen 5
     have fq5 := (HZ9.out.cell 5).trans rfl
     clear HX9 HZ9 HL9 HY9 HB9 h0 HR HX HZ HL HB HR2
     go_wp2
     refine bodyPost_ret (res_ctt17 rfl _ _ (w.heap.size + 1) 27 _ (0, 0) _ rfl V9.out.1 Try.underlying27 rfl (by kernel_rfl)) rfl ?_
     rw [HR3.out]
     exact ⟨ndC zeroT (.slice none 0 0), rfl, LieB.zero _ _, V9.out.2⟩
  ·obtain rfl : j = l.length := by omega
   have i2 : ¬ (l.length : Int) < (l.length : Int) := by omega
   have HR3 : Hid (runXE (a, f) l 0 = ((ma, mf), 0, 0)) := hHd (by rw [HR.out, List.drop_length]; rfl)
   have V9 : Veil17 (Blk (set6 w7 (w.heap.size + 1) (.string (txt ma.name)) (.string (txt ma.key)) (.int .i64 ma.kind) (.int .u64 (ma.num : Int)) (.string (txt ma.text)) (.slice M mf.len mc)) (w.heap.size + 1) 27 (cN ma (.slice M mf.len mc)) ∧ LieN (set6 w7 (w.heap.size + 1) (.string (txt ma.name)) (.string (txt ma.key)) (.int .i64 ma.kind) (.int .u64 (ma.num : Int)) (.string (txt ma.text)) (.slice M mf.len mc)) (ndC ma (.slice M mf.len mc)) (ma, mf) ∧ Below w.heap.size w (set6 w7 (w.heap.size + 1) (.string (txt ma.name)) (.string (txt ma.key)) (.int .i64 ma.kind) (.int .u64 (ma.num : Int)) (.string (txt ma.text)) (.slice M mf.len mc))) := .mk ⟨HZ.out.set6 _ _ _ _ _ _, LieZ.keep (S' := fun g => g < (set6 w7 (w.heap.size + 1) (.string (txt ma.name)) (.string (txt ma.key)) (.int .i64 ma.kind) (.int .u64 (ma.num : Int)) (.string (txt ma.text)) (.slice M mf.len mc)).heap.size) HL.out (fun g hg => set6_other (by rcases hg with h | h <;> omega)) (fun g hg => by show g < _; rw [set6_size]; exact HU.out g hg), HB.out.trans (set6_below (Nat.le_succ _))⟩
   obtain ⟨y0, y1, y2, y3, y4, y5⟩ := cl6 HX.out
   have fz0 : (w7).frozen? ⟨w.heap.size + 1, 0, none⟩ = false := HZ.out.frozen 0
   have fq0 := (HZ.out.cell 0).trans rfl
   have fz1 : (w7).frozen? ⟨w.heap.size + 1, 1, none⟩ = false := HZ.out.frozen 1
   have fq1 := (HZ.out.cell 1).trans rfl
   have fz2 : (w7).frozen? ⟨w.heap.size + 1, 2, none⟩ = false := HZ.out.frozen 2
   have fq2 := (HZ.out.cell 2).trans rfl
   have fz3 : (w7).frozen? ⟨w.heap.size + 1, 3, none⟩ = false := HZ.out.frozen 3
   have fq3 := (HZ.out.cell 3).trans rfl
   have fz4 : (w7).frozen? ⟨w.heap.size + 1, 4, none⟩ = false := HZ.out.frozen 4
   have fq4 := (HZ.out.cell 4).trans rfl
   have fz5 : (w7).frozen? ⟨w.heap.size + 1, 5, none⟩ = false := HZ.out.frozen 5
   have fq5 := (HZ.out.cell 5).trans rfl
   clear HR HX HZ HL HB hlt
   go_wp2
   refine bodyPost_ret (res_ctt17 rfl _ _ (w.heap.size + 1) 27 _ (0, 0) _ rfl V9.out.1 Try.underlying27 rfl (by kernel_rfl)) rfl ?_
   rw [HR3.out]
   exact ⟨_, rfl, V9.out.2.1, V9.out.2.2⟩
end
end Go.Proofs.Ythmobcaidhgeaaa

/- VadNum SpcMem OctRefB SpcRefA SpcRefB SclRefC -/
import Derived.Test.YtodlhgflfcadmaaGreatUM2
set_option linter.unusedSimpArgs false
set_option linter.unusedVariables false
set_option maxRecDepth 100000
set_option maxHeartbeats 8000000
namespace Go.Proofs.YtodlhgflfcadmaaGreat
open Go.RowKit
abbrev Bad := Nat × List Stp
abbrev vlOf (a : NdD) : Vl := ⟨a.kind, a.num, a.text⟩
def leafB (d : SpD) (a : NdD) (k : NdF) : Bool := decide (a.key = []) && decide (k.len = 0) && rightX d (vlOf a)
def headX (d : SpD) (a : NdD) (k : NdF) (ahead : Nat) : Option Nat :=
 if d.kind = 1 then (if leafB d a k = true then none else some 23)
 else if d.kind = 3 then (if a.kind ≠ 0 ∨ identX a.key = false then some 23 else if d.most ≤ ahead then some 27 else none)
 else (if a.kind ≠ 0 ∨ a.key ≠ [] then some 23 else none)
def lackX : SpF → List Nat → Option Bad
 | .nil, _ => none
 | .cons d _ r, c => if d.must = true ∧ c.headD 0 = 0 then some (25, [(d.name, [])]) else lackX r c.tail
def bump (c : List Nat) (i : Nat) : List Nat := c.set i (c.getD i 0 + 1)
def zeros (s : SpF) : List Nat := List.replicate s.len 0
def scanF : NdF → SpF → List Nat → Option Bad
 | .nil, s, c => lackX s c
 | .cons a k r, s, c => match findX a.name s with
  | none => some (22, [stp a])
  | some i => match s.get? i with
   | none => none
   | some y => match headX y.1 a k (c.getD i 0) with
    | some e => some (e, [stp a])
    | none => match (if y.1.kind = 1 then none else scanF k y.2 (zeros y.2)) with
     | some b => some (b.1, stp a :: b.2)
     | none => scanF r s (bump c i)
def insideX (s : SpF) (f : NdF) : Option Bad := scanF f s (zeros s)
def kidX1 (y : Sp) (a : NdD) (k : NdF) (ahead : Nat) : Option Bad := match headX y.1 a k ahead with
 | some e => some (e, [])
 | none => if y.1.kind = 1 then none else insideX y.2 k
def under (a : NdD) : Option Bad → Option Bad
 | none => none
 | some b => some (b.1, stp a :: b.2)
theorem scan_cons {a : NdD} {k r : NdF} {s : SpF} {c : List Nat} {i : Nat} {y : Sp} (h1 : findX a.name s = some i) (h2 : s.get? i = some y) :
  scanF (.cons a k r) s c = match under a (kidX1 y a k (c.getD i 0)) with | some b => some b | none => scanF r s (bump c i) := by
 have e : scanF (.cons a k r) s c = match headX y.1 a k (c.getD i 0) with
    | some e => some (e, [stp a])
    | none => match (if y.1.kind = 1 then none else scanF k y.2 (zeros y.2)) with
     | some b => some (b.1, stp a :: b.2)
     | none => scanF r s (bump c i) := by
  rw [scanF.eq_def]; simp only [h1, h2]
 rw [e]
 unfold kidX1 insideX
 cases headX y.1 a k (c.getD i 0) with
 | some e => rfl
 | none =>
  simp only
  by_cases hk : y.1.kind = 1
  ·rw [if_pos hk]; rfl
  ·rw [if_neg hk]
   cases scanF k y.2 (zeros y.2) <;> rfl
theorem scan_name {a : NdD} {k r : NdF} {s : SpF} {c : List Nat} (h1 : findX a.name s = none) : scanF (.cons a k r) s c = some (22, [stp a]) := by
 rw [scanF.eq_def]; simp only [h1]
theorem scan_nil (s : SpF) (c : List Nat) : scanF .nil s c = lackX s c := by rw [scanF.eq_def]
theorem sp_get {n : List UInt8} {s : SpF} {i : Nat} (h : findX n s = some i) : ∃ y, s.get? i = some y ∧ y.1.name = n ∧ i < s.len := by
 obtain ⟨x, h1, h2, _⟩ := find_some h
 exact ⟨x, h1, h2, Fr.get_lt h1⟩
theorem bump_len (c : List Nat) (i : Nat) : (bump c i).length = c.length := by simp [bump]
theorem bump_get {c : List Nat} {i : Nat} (j : Nat) (h : i < c.length) : (bump c i).getD j 0 = if j = i then c.getD i 0 + 1 else c.getD j 0 := by
 unfold bump
 rw [List.getD_eq_getElem?_getD, List.getElem?_set]
 by_cases e : j = i
 ·subst e; simp [h]
 ·rw [if_neg (fun h' => e h'.symm), if_neg e, List.getD_eq_getElem?_getD]
def defS : Stp := (nDefault, [])
def clsS : Stp := (nClass, [])
def thereB (all : NdF) (y : Nd) : Bool := (gtF (nClass, y.1.text) all).isSome
def namedB (all : NdF) (o : Option Nd) : Bool := match o with
 | none => true
 | some y => thereB all y
def rulesX (all : NdF) : NdF → Option (List Stp)
 | .nil => none
 | .cons a k r => if a.name = nRule ∧ namedB all (gtF clsS k) = false then some [stp a, clsS] else rulesX all r
def portX (k : NdF) : Option (List Stp) := if namedB k (gtF defS k) = false then some [defS] else rulesX k k
def refsF : NdF → Option Bad
 | .nil => none
 | .cons a k r => if a.name = nPort then (match portX k with | some p => some (26, stp a :: p) | none => refsF r) else refsF r
def badO : Option Bad → Bad
 | none => (0, [])
 | some b => b
def RefsX (x : Nd) : Bad := badO (refsF x.2)
def rootB (x : Nd) : Bool := rgtX x && decide (x.1 = zeroT)
def CheckX (v : Int) (x : Nd) : Bad := if (rootX v).2 ≠ 0 then ((rootX v).2, []) else if rootB x = false then (1, []) else match insideX (rootX v).1.2 x.2 with
 | some b => b
 | none => RefsX x
def MayX (v : Int) (x : Nd) : Bool := decide ((CheckX v x).1 = 0)
theorem head_err {d : SpD} {a : NdD} {k : NdF} {n e : Nat} (h : headX d a k n = some e) : e = 23 ∨ e = 27 := by
 unfold headX at h
 repeat' split at h
 all_goals first | (injection h with h; omega) | cases h
theorem lack_err : ∀ {s : SpF} {c : List Nat} {b : Bad}, lackX s c = some b → b.1 = 25 ∧ b.2.length = 1 := by
 intro s
 induction s with
 | nil => intro c b h; cases h
 | cons d k r _ ih =>
  intro c b h
  unfold lackX at h
  split at h
  ·injection h with h; subst h; exact ⟨rfl, rfl⟩
  ·exact ih h
theorem scan_err : ∀ {f : NdF} {s : SpF} {c : List Nat} {b : Bad}, scanF f s c = some b → (b.1 = 22 ∨ b.1 = 23 ∨ b.1 = 25 ∨ b.1 = 27) ∧ b.2.length ≤ f.size + 1 := by
 intro f
 induction f with
 | nil =>
  intro s c b h
  rw [scan_nil] at h
  obtain ⟨h1, h2⟩ := lack_err h
  exact ⟨by omega, by omega⟩
 | cons a k r ihk ihr =>
  intro s c b h
  cases h1 : findX a.name s with
  | none => rw [scan_name h1] at h; injection h with h; subst h; exact ⟨.inl rfl, by simp⟩
  | some i =>
   obtain ⟨y, h2, _, _⟩ := sp_get h1
   rw [scan_cons h1 h2] at h
   cases hk : kidX1 y a k (c.getD i 0) with
   | none =>
    rw [hk] at h
    obtain ⟨g1, g2⟩ := ihr h
    exact ⟨g1, by simp only [Fr.size]; omega⟩
   | some q =>
    rw [hk] at h
    simp only [under] at h
    injection h with h
    subst h
    unfold kidX1 at hk
    cases hh : headX y.1 a k (c.getD i 0) with
    | some e =>
     rw [hh] at hk
     injection hk with hk
     subst hk
     have := head_err hh
     exact ⟨by simp only; omega, by simp⟩
    | none =>
     rw [hh] at hk
     simp only at hk
     split at hk
     ·cases hk
     ·obtain ⟨g1, g2⟩ := ihk hk
      exact ⟨g1, by simp only [Fr.size, List.length_cons]; omega⟩
def SpcD : RdOf SpD := fun w N cs a => ∃ nv kv d, cs = [.string (txt a.name), .int .i64 (a.kind : Int), .int .i64 (a.typ : Int), .int .u64 (a.low : Int), .int .u64 (a.high : Int), nv, .bool a.must, .int .i64 (a.most : Int), kv] ∧
 Vals w d nv (txts a.names) ∧ (0 < a.names.length → N d) ∧ kv.oneCell' = true
theorem txts_len (l : List (List UInt8)) : (txts l).length = l.length := by simp [txts]
theorem Vals.heap {w w' : World} {d : Nat} {v : Value} {xs : List Value} (h : Vals w d v xs) (hk : 0 < xs.length → w'.heap[d]? = w.heap[d]?) : Vals w' d v xs := by
 obtain ⟨A, c, rfl, h1, h2⟩ := h
 refine ⟨A, c, rfl, h1, fun h0 => ?_⟩
 obtain ⟨hlt, off, rfl, hc⟩ := h2 h0
 have hb := hk h0
 refine ⟨?_, off, rfl, fun j u hj => (World.cell?_of_block (w := w) (a := ⟨d, off + j, none⟩) hb).trans (hc j u hj)⟩
 rw [Array.getElem?_eq_getElem hlt] at hb
 exact (Array.getElem?_eq_some_iff.1 hb).1
theorem stay_spc : StayD SpcD := by
 intro w w' N N' cs a hk hN ⟨nv, kv, d, h1, h2, h3, h4⟩
 refine ⟨nv, kv, d, h1, h2.heap (fun h0 => hk d (h3 ?_)), fun h0 => hN d (h3 h0), h4⟩
 rwa [txts_len] at h0
theorem one_spc : OneD SpcD := by
 intro w N cs a ⟨nv, kv, d, h1, ⟨A, c, h2, _⟩, _, h4⟩ u hu
 subst h1 h2
 simp only [List.mem_cons, List.not_mem_nil, or_false] at hu
 rcases hu with rfl | rfl | rfl | rfl | rfl | rfl | rfl | rfl | rfl <;> first | rfl | exact h4
abbrev SpN (w : World) (S N : Nat → Prop) (cs : List Value) (x : Sp) : Prop := FrN SpcD 9 8 w S N cs x.1 x.2
theorem SpN.shape {w : World} {S N : Nat → Prop} {cs : List Value} {x : Sp} (h : SpN w S N cs x) :
  ∃ B m A c d, cs = [.string (txt x.1.name), .int .i64 (x.1.kind : Int), .int .i64 (x.1.typ : Int), .int .u64 (x.1.low : Int), .int .u64 (x.1.high : Int), .slice B x.1.names.length m, .bool x.1.must, .int .i64 (x.1.most : Int), .slice A x.2.len c] ∧
   Vals w d (.slice B x.1.names.length m) (txts x.1.names) ∧ (0 < x.1.names.length → N d) ∧ FrV SpcD 9 8 w S N (.slice A x.2.len c) x.2 := by
 obtain ⟨_, ⟨nv, kv, d, rfl, h2, h3, _⟩, v, h5, h6⟩ := h
 obtain ⟨A, c, rfl⟩ := h6.shape
 simp at h5
 subst h5
 obtain ⟨B, m, e⟩ := h2.shape
 rw [txts_len] at e
 subst e
 exact ⟨B, m, A, c, d, rfl, h2, h3, h6⟩
theorem SpN.make {w : World} {S N : Nat → Prop} {a : SpD} {k : SpF} {nv kv : Value} {d : Nat} (h1 : Vals w d nv (txts a.names)) (h2 : 0 < a.names.length → N d) (h3 : FrV SpcD 9 8 w S N kv k) :
  SpN w S N [.string (txt a.name), .int .i64 (a.kind : Int), .int .i64 (a.typ : Int), .int .u64 (a.low : Int), .int .u64 (a.high : Int), nv, .bool a.must, .int .i64 (a.most : Int), kv] (a, k) := by
 refine ⟨rfl, ⟨nv, kv, d, rfl, h1, h2, ?_⟩, kv, rfl, h3⟩
 obtain ⟨A, c, rfl⟩ := h3.shape
 rfl
def Fresh (base : Nat) (w : World) (g : Nat) : Prop := base ≤ g ∧ ∃ cs t, w.heap[g]? = some (.cells cs t (0, 0))
theorem Fresh.lt {base : Nat} {w : World} {g : Nat} (h : Fresh base w g) : g < w.heap.size := by
 obtain ⟨_, cs, t, h⟩ := h
 exact (Array.getElem?_eq_some_iff.1 h).1
theorem Fresh.below {base : Nat} {w w' : World} {g : Nat} (h : Fresh base w g) (hb : Below w.heap.size w w') : Fresh base w' g := by
 have hl := h.lt
 obtain ⟨h0, cs, t, h⟩ := h
 exact ⟨h0, cs, t, (hb.block g hl).trans h⟩
def NewSp (base : Nat) (w : World) (cs : List Value) (x : Sp) : Prop := ∃ S N, (∀ g, S g → Fresh base w g) ∧ (∀ g, N g → Fresh base w g ∧ ¬ S g) ∧ SpN w S N cs x
def SpP (x : Sp × Nat) (w : World) (r : Ending) (w' : World) : Prop := ∃ cs, r = .returned (.tuple #[.agg cs.toArray, .int .i64 (x.2 : Int)]) ∧ NewSp w.heap.size w' cs x.1 ∧ Below w.heap.size w w'
def AnsP (v : Value) (w : World) (r : Ending) (w' : World) : Prop := r = .returned v ∧ Below w.heap.size w w'
theorem txt_get (l : List UInt8) (k : Nat) (h : k < l.length) (h' : k < (txt l).size) : (txt l)[k]'h' = l[k]'h := by
 show (txt l).data[k]'h' = l[k]
 simp [txt]
 rfl
theorem rfind_any (n : List UInt8) (S N : Nat → Prop) (cs : List Value) (x : Sp) (w : World) (hx : SpN w S N cs x) (hS : ∀ g, S g → g < w.heap.size) (hl : x.2.len ≤ 1000000) :
  Calls Tryz.prog 61 #[.agg cs.toArray, .string (txt n)] w (AnsP (.int .i64 (findI n x.2)) w) := by
 obtain ⟨B, m, A, c, d, rfl, -, -, hk⟩ := hx.shape
 have hB : Below w.heap.size w (w.alloc (.cells (cT x.1.name x.1.kind x.1.typ x.1.low x.1.high x.1.names x.1.must x.1.most B m A x.2.len c) 67)) := bAl
 have HB := hHd hB
 have tn : (txt n).toList = n := txt_toList n
 have HK := hHd hk
 clear hk hx hB
 go_enter Tryz.func61, Tryz.ntmps61
 go_wp2
 go_loop [5] (fun i => ∃ k : Nat, k ≤ x.2.len ∧ i = .int .i64 (k : Int) ∧ Hid (∀ j y, j < k → x.2.get? j = some y → y.1.name ≠ n)) (fun i => x.2.len - (intOf i).toNat)
 case atStart => exact ⟨0, Nat.zero_le _, rfl, hHd (fun j y h => by omega)⟩
 case round =>
  obtain ⟨k, hk, rfl, HL⟩ := hrel
  by_cases hlt : k < x.2.len
  ·obtain ⟨a, q, hg⟩ := Fr.get_some hlt
   obtain ⟨b, o, c', cs', e, -, hSb, hN, hcl⟩ := HK.out.at hg
   injection e with e1 e2 e3
   subst e1 e3
   obtain ⟨B', m', A', c'', d', rfl, -, -, -⟩ := SpN.shape (x := (a, q)) hN
   have i1 : (0 : Int) ≤ (k : Int) := by omega
   have i2 : (k : Int) < (x.2.len : Int) := by omega
   have q0 : (w.alloc (.cells (cS (txt x.1.name) x.1.kind x.1.typ x.1.low x.1.high (.slice B x.1.names.length m) x.1.must x.1.most (.slice (some ⟨b, o, none⟩) x.2.len c)) 67)).cell? ⟨b, o + k * 9, none⟩ = some (.string (txt a.name)) := (HB.out.cell (p := ⟨b, o + k * 9, none⟩) (hS b hSb)).trans (hcl 0 _ rfl)
   have ta : (txt a.name).toList = a.name := txt_toList _
   have HG := hHd hg
   clear hcl hN hg e2 hSb
   by_cases hn : a.name = n
   ·have h1 : (a.name == n) = true := beq_iff_eq.2 hn
    have HF : Hid (findI n x.2 = (k : Int)) := hHd (by unfold findI; rw [find_is HG.out hn HL.out])
    clear hn
    go_wp2
    go_ret
    exact ⟨by rw [HF.out]; rfl, HB.out⟩
   ·have h1 : (a.name == n) = false := beq_eq_false_iff_ne.2 hn
    have HL2 : Hid (∀ j y, j < k + 1 → x.2.get? j = some y → y.1.name ≠ n) := hHd (fun j y hj hy => by
     by_cases e : j = k
     ·subst e; rw [HG.out] at hy; injection hy with hy; subst hy; exact hn
     ·exact HL.out j y (by omega) hy)
    clear hn
    go_wp2
    go_round
    case rel => exact ⟨k + 1, by omega, by go_num, HL2⟩
    case measure => simp [intOf]; omega
  ·have HF : Hid (findI n x.2 = -1) := hHd (by unfold findI; rw [find_no (fun j y hy => HL.out j y (by have := Fr.get_lt hy; omega) hy)])
   have i2 : ¬ (k : Int) < (x.2.len : Int) := by omega
   go_wp2
   go_ret
   exact ⟨by rw [HF.out]; rfl, HB.out⟩
theorem rtag_any (i : Int) (S N : Nat → Prop) (cs : List Value) (x : Sp) (w : World) (h0 : -9223372036854775808 ≤ i) (h1 : i ≤ 9223372036854775807) (hx : SpN w S N cs x) (hS : ∀ g, S g → g < w.heap.size) (hl : x.2.len ≤ 1000000) :
  Calls Tryz.prog 48 #[.agg cs.toArray, .int .i64 i] w (AnsP (.int .u64 (tagX x.2 i : Int)) w) := by
 obtain ⟨B, m, A, c, d, rfl, -, -, hk⟩ := hx.shape
 have hB : Below w.heap.size w (w.alloc (.cells (cT x.1.name x.1.kind x.1.typ x.1.low x.1.high x.1.names x.1.must x.1.most B m A x.2.len c) 67)) := bAl
 have HB := hHd hB
 have HK := hHd hk
 clear hk hx hB
 by_cases hneg : i < 0
 ·have HV : Hid (((tagX x.2 i : Nat) : Int) = 0) := hHd (by rw [tag_low _ hneg]; rfl)
  go_enter Tryz.func48, Tryz.ntmps48
  go_wp2
  go_ret
  exact ⟨by rw [HV.out]; rfl, HB.out⟩
 obtain ⟨k, rfl⟩ : ∃ k : Nat, i = (k : Int) := ⟨i.toNat, by omega⟩
 by_cases hlt : k < x.2.len
 ·obtain ⟨a, q, hg⟩ := Fr.get_some hlt
  obtain ⟨b, o, c', cs', e, -, hSb, hN, hcl⟩ := HK.out.at hg
  injection e with e1 e2 e3
  subst e1 e3
  obtain ⟨B', m', A', c'', d', rfl, -, -, -⟩ := SpN.shape (x := (a, q)) hN
  have i1 : (0 : Int) ≤ (k : Int) := by omega
  have i2 : (k : Int) < (x.2.len : Int) := by omega
  have i4 : ¬ (x.2.len : Int) ≤ (k : Int) := by omega
  have i3 : (k : Int) ≤ 1000000 := by omega
  have q0 : (w.alloc (.cells (cS (txt x.1.name) x.1.kind x.1.typ x.1.low x.1.high (.slice B x.1.names.length m) x.1.must x.1.most (.slice (some ⟨b, o, none⟩) x.2.len c)) 67)).cell? ⟨b, o + k * 9 + 1, none⟩ = some (.int .i64 (a.kind : Int)) := (HB.out.cell (p := ⟨b, o + k * 9 + 1, none⟩) (hS b hSb)).trans (hcl 1 _ rfl)
  have HT := hHd (tag_in hg)
  clear hcl hN hg e2 hSb
  by_cases hn : a.kind = 1
  ·have n1 : ((a.kind : Int) == 1) = true := by rw [hn]; rfl
   have n2 : ((a.kind : Int) != 1) = false := by rw [hn]; rfl
   have HV : Hid (((tagX x.2 (k : Int) : Nat) : Int) = 2 * (k : Int) + 2) := hHd (by rw [HT.out, if_pos hn]; omega)
   clear hn HT
   go_enter Tryz.func48, Tryz.ntmps48
   go_wp2
   go_ret
   exact ⟨by rw [HV.out]; rfl, HB.out⟩
  ·have n1 : ((a.kind : Int) == 1) = false := beq_eq_false_iff_ne.2 (by omega)
   have n2 : ((a.kind : Int) != 1) = true := by unfold bne; rw [n1]; rfl
   have HV : Hid (((tagX x.2 (k : Int) : Nat) : Int) = 2 * (k : Int) + 2 + 1) := hHd (by rw [HT.out, if_neg hn]; omega)
   clear hn HT
   go_enter Tryz.func48, Tryz.ntmps48
   go_wp2
   go_ret
   exact ⟨by rw [HV.out]; rfl, HB.out⟩
 ·have HV : Hid (((tagX x.2 (k : Int) : Nat) : Int) = 0) := hHd (by rw [tag_high _ (by omega)]; rfl)
  have i4 : (x.2.len : Int) ≤ (k : Int) := by omega
  clear hlt
  go_enter Tryz.func48, Tryz.ntmps48
  go_wp2
  go_ret
  exact ⟨by rw [HV.out]; rfl, HB.out⟩
theorem infoS : (Tryz.prog.info? 67).map (fun i => (i.zero, i.size, i.bytes)) = some (some (.agg (cS ⟨#[]⟩ 0 0 0 0 (.slice none 0 0) false 0 (.slice none 0 0))), 9, 112) := by kernel_rfl
theorem zeroS : (Value.agg (cS ⟨#[]⟩ 0 0 0 0 (.slice none 0 0) false 0 (.slice none 0 0))).cells.size = 9 := by kernel_rfl
def spC (a : SpD) (nv kv : Value) : List Value := [.string (txt a.name), .int .i64 (a.kind : Int), .int .i64 (a.typ : Int), .int .u64 (a.low : Int), .int .u64 (a.high : Int), nv, .bool a.must, .int .i64 (a.most : Int), kv]
theorem leaf_n {w : World} {S N : Nat → Prop} {a : SpD} (h : a.names = []) : SpN w S N (spC a (.slice none 0 0) (.slice none 0 0)) (a, .nil) :=
 SpN.make (d := 0) (by rw [h]; exact ⟨none, 0, rfl, Nat.le_refl _, fun h => absurd h (by simp [txts])⟩) (by rw [h]; intro h; simp at h) (FrV.empty _ _ _)
theorem list_n {w : World} {S N : Nat → Prop} {a : SpD} {k : SpF} {kv : Value} (h : a.names = []) (hk : FrV SpcD 9 8 w S N kv k) : SpN w S N (spC a (.slice none 0 0) kv) (a, k) :=
 SpN.make (d := 0) (by rw [h]; exact ⟨none, 0, rfl, Nat.le_refl _, fun h => absurd h (by simp [txts])⟩) (by rw [h]; intro h; simp at h) hk
def NumP (a : SpD) (w : World) (r : Ending) (w' : World) : Prop := r = .returned (.agg (spC a (.slice none 0 0) (.slice none 0 0)).toArray) ∧ Below w.heap.size w w'
theorem srnum_any (n : List UInt8) (t lo hi : Nat) (w : World) : Calls Tryz.prog 46 #[.string (txt n), .int .i64 (t : Int), .int .u64 (lo : Int), .int .u64 (hi : Int)] w (NumP (numD n t lo hi) w) := by
 go_enter Tryz.func46, Tryz.ntmps46
 go_wp2
 exact bodyPost_ret (results_cell_row rfl _ _ w.heap.size 67 _ (0, 0) _ rfl (heap_alloc_new w _) Tryz.underlying67 rfl (by kernel_rfl)) rfl ⟨rfl, bAl⟩
theorem row_leaves {w : World} {S N : Nat → Prop} : ∀ (l : List SpD), (∀ a ∈ l, a.names = []) → rowG SpcD 9 8 w S N (l.flatMap fun a => spC a (.slice none 0 0) (.slice none 0 0)) (frOf (l.map fun a => (a, .nil))) := by
 intro l
 induction l with
 | nil => intro _; rfl
 | cons a l ih => intro h; exact ⟨_, _, rfl, leaf_n (h a (by simp)), ih (fun b hb => h b (by simp [hb]))⟩
def ClassP (v : Nat) (w : World) (r : Ending) (w' : World) : Prop := ∃ A c, r = .returned (.slice A (frOf (classL v)).len c) ∧ OwnG SpcD 67 9 8 w' w.heap.size (fun _ => False) (fun _ => False) (.slice A (frOf (classL v)).len c) (frOf (classL v)) ∧ Below w.heap.size w w'
theorem rclass_1 (w : World) : Calls Tryz.prog 47 #[.int .i64 1] w (ClassP 1 w) := by
 have N1 : ∀ W, Hid (Calls Tryz.prog 46 #[.string ⟨#[113, 117, 97, 110, 116, 117, 109]⟩, .int .i64 1, .int .u64 1500, .int .u64 100000] W (fun r w' => r = .returned (.agg (cS ⟨#[113, 117, 97, 110, 116, 117, 109]⟩ 1 1 1500 100000 (.slice none 0 0) true 0 (.slice none 0 0))) ∧ Below W.heap.size W w')) := fun W => hHd (srnum_any nQuantum 1 1500 100000 W)
 have N2 : ∀ W, Hid (Calls Tryz.prog 46 #[.string ⟨#[114, 97, 116, 101]⟩, .int .i64 2, .int .u64 0, .int .u64 1000000] W (fun r w' => r = .returned (.agg (cS ⟨#[114, 97, 116, 101]⟩ 1 2 0 1000000 (.slice none 0 0) true 0 (.slice none 0 0))) ∧ Below W.heap.size W w')) := fun W => hHd (srnum_any nRate 2 0 1000000 W)
 have N3 : ∀ W, Hid (Calls Tryz.prog 46 #[.string ⟨#[98, 117, 114, 115, 116]⟩, .int .i64 1, .int .u64 1500, .int .u64 1000000] W (fun r w' => r = .returned (.agg (cS ⟨#[98, 117, 114, 115, 116]⟩ 1 1 1500 1000000 (.slice none 0 0) true 0 (.slice none 0 0))) ∧ Below W.heap.size W w')) := fun W => hHd (srnum_any nBurst 1 1500 1000000 W)
 have N4 : ∀ W, Hid (Calls Tryz.prog 46 #[.string ⟨#[108, 105, 109, 105, 116]⟩, .int .i64 1, .int .u64 1, .int .u64 64] W (fun r w' => r = .returned (.agg (cS ⟨#[108, 105, 109, 105, 116]⟩ 1 1 1 64 (.slice none 0 0) true 0 (.slice none 0 0))) ∧ Below W.heap.size W w')) := fun W => hHd (srnum_any nLimit 1 1 64 W)
 go_enter Tryz.func47, Tryz.ntmps47
 go_wp2_with fail
 refine (N1 _).out.mono ?_
 rintro r w1 ⟨rfl, hB⟩
 have H1 := hHd hB
 clear hB
 go_wp2_with fail
 refine (N2 _).out.mono ?_
 rintro r w2 ⟨rfl, hB⟩
 have H2 := hHd (H1.out.trans (hB.mono H1.out.size))
 clear hB
 go_wp2_with fail
 refine (N3 _).out.mono ?_
 rintro r w3 ⟨rfl, hB⟩
 have H3 := hHd (H2.out.trans (hB.mono H2.out.size))
 clear hB
 have HA : Hid (Below w.heap.size w (w3.alloc (.cells lQ3 67))) := hHd (H3.out.alloc H3.out.size _)
 have HO : Hid (OwnG SpcD 67 9 8 (w3.alloc (.cells lQ3 67)) w.heap.size (fun _ => False) (fun _ => False) (.slice (some ⟨w3.heap.size, 0, none⟩) 3 3) (frOf [(numD nQuantum 1 1500 100000, .nil), (numD nRate 2 0 1000000, .nil), (numD nBurst 1 1500 1000000, .nil)])) := hHd (OwnG.lit (Blk.new w3 _ _) H3.out.size (by decide) (row_leaves [numD nQuantum 1 1500 100000, numD nRate 2 0 1000000, numD nBurst 1 1500 1000000] (by decide)) (fun _ h => h.elim) (fun _ h => h.elim))
 go_wp2_with fail
 refine (N4 _).out.mono ?_
 rintro r w4 ⟨rfl, hB⟩
 have HO4 := hHd ((HO.out.below stay_spc hB).below stay_spc ((Below.refl _ _).alloc (Nat.le_refl _) (.cells (cS ⟨#[108, 105, 109, 105, 116]⟩ 1 1 1 64 (.slice none 0 0) true 0 (.slice none 0 0)) 67)))
 have hb4 : Below w.heap.size w (w4.alloc (.cells (cS ⟨#[108, 105, 109, 105, 116]⟩ 1 1 1 64 (.slice none 0 0) true 0 (.slice none 0 0)) 67)) := (HA.out.trans (hB.mono HA.out.size)).alloc (Nat.le_trans HA.out.size hB.size) _
 have H4 := hHd hb4
 clear hb4 hB
 go_wp2_with (at_builtin; refine wpList_append_g (ys := spC (numD nLimit 1 1 64) (.slice none 0 0) (.slice none 0 0)) stay_spc one_spc Tryz.underlying65 infoS zeroS (by decide) rfl (.tmp 10) (.tmp 12) rfl rfl rfl HO4.out rfl (Blk.new w4 _ _) (leaf_n rfl) ?h1 ?h2 H4.out.size ?_)
 case h1 => decide
 case h2 => decide
 intro v5 w5 hap
 have H5 := hHd (H4.out.trans (hap.below HO4.out H4.out.size))
 have HO5 := hHd hap.1
 obtain ⟨g5, c5, rfl⟩ := hap.2.2.2
 clear hap
 go_wp2
 go_ret
 exact ⟨_, _, rfl, HO5.out, H5.out⟩
theorem rclass_2 (w : World) : Calls Tryz.prog 47 #[.int .i64 2] w (ClassP 2 w) := by
 have N1 : ∀ W, Hid (Calls Tryz.prog 46 #[.string ⟨#[113, 117, 97, 110, 116, 117, 109]⟩, .int .i64 1, .int .u64 1500, .int .u64 100000] W (fun r w' => r = .returned (.agg (cS ⟨#[113, 117, 97, 110, 116, 117, 109]⟩ 1 1 1500 100000 (.slice none 0 0) true 0 (.slice none 0 0))) ∧ Below W.heap.size W w')) := fun W => hHd (srnum_any nQuantum 1 1500 100000 W)
 have N2 : ∀ W, Hid (Calls Tryz.prog 46 #[.string ⟨#[114, 97, 116, 101]⟩, .int .i64 2, .int .u64 0, .int .u64 1000000] W (fun r w' => r = .returned (.agg (cS ⟨#[114, 97, 116, 101]⟩ 1 2 0 1000000 (.slice none 0 0) true 0 (.slice none 0 0))) ∧ Below W.heap.size W w')) := fun W => hHd (srnum_any nRate 2 0 1000000 W)
 have N3 : ∀ W, Hid (Calls Tryz.prog 46 #[.string ⟨#[98, 117, 114, 115, 116]⟩, .int .i64 1, .int .u64 1500, .int .u64 1000000] W (fun r w' => r = .returned (.agg (cS ⟨#[98, 117, 114, 115, 116]⟩ 1 1 1500 1000000 (.slice none 0 0) true 0 (.slice none 0 0))) ∧ Below W.heap.size W w')) := fun W => hHd (srnum_any nBurst 1 1500 1000000 W)
 have N4 : ∀ W, Hid (Calls Tryz.prog 46 #[.string ⟨#[108, 105, 109, 105, 116]⟩, .int .i64 1, .int .u64 1, .int .u64 64] W (fun r w' => r = .returned (.agg (cS ⟨#[108, 105, 109, 105, 116]⟩ 1 1 1 64 (.slice none 0 0) true 0 (.slice none 0 0))) ∧ Below W.heap.size W w')) := fun W => hHd (srnum_any nLimit 1 1 64 W)
 go_enter Tryz.func47, Tryz.ntmps47
 go_wp2_with fail
 refine (N1 _).out.mono ?_
 rintro r w1 ⟨rfl, hB⟩
 have H1 := hHd hB
 clear hB
 go_wp2_with fail
 refine (N2 _).out.mono ?_
 rintro r w2 ⟨rfl, hB⟩
 have H2 := hHd (H1.out.trans (hB.mono H1.out.size))
 clear hB
 go_wp2_with fail
 refine (N3 _).out.mono ?_
 rintro r w3 ⟨rfl, hB⟩
 have H3 := hHd (H2.out.trans (hB.mono H2.out.size))
 clear hB
 have HA : Hid (Below w.heap.size w (w3.alloc (.cells lQ3 67))) := hHd (H3.out.alloc H3.out.size _)
 have HO : Hid (OwnG SpcD 67 9 8 (w3.alloc (.cells lQ3 67)) w.heap.size (fun _ => False) (fun _ => False) (.slice (some ⟨w3.heap.size, 0, none⟩) 3 3) (frOf [(numD nQuantum 1 1500 100000, .nil), (numD nRate 2 0 1000000, .nil), (numD nBurst 1 1500 1000000, .nil)])) := hHd (OwnG.lit (Blk.new w3 _ _) H3.out.size (by decide) (row_leaves [numD nQuantum 1 1500 100000, numD nRate 2 0 1000000, numD nBurst 1 1500 1000000] (by decide)) (fun _ h => h.elim) (fun _ h => h.elim))
 go_wp2_with fail
 refine (N4 _).out.mono ?_
 rintro r w4 ⟨rfl, hB⟩
 have HO4 := hHd ((HO.out.below stay_spc hB).below stay_spc ((Below.refl _ _).alloc (Nat.le_refl _) (.cells (cS ⟨#[108, 105, 109, 105, 116]⟩ 1 1 1 64 (.slice none 0 0) true 0 (.slice none 0 0)) 67)))
 have hb4 : Below w.heap.size w (w4.alloc (.cells (cS ⟨#[108, 105, 109, 105, 116]⟩ 1 1 1 64 (.slice none 0 0) true 0 (.slice none 0 0)) 67)) := (HA.out.trans (hB.mono HA.out.size)).alloc (Nat.le_trans HA.out.size hB.size) _
 have H4 := hHd hb4
 clear hb4 hB
 go_wp2_with (at_builtin; refine wpList_append_g (ys := spC (numD nLimit 1 1 64) (.slice none 0 0) (.slice none 0 0)) stay_spc one_spc Tryz.underlying65 infoS zeroS (by decide) rfl (.tmp 10) (.tmp 12) rfl rfl rfl HO4.out rfl (Blk.new w4 _ _) (leaf_n rfl) ?h1 ?h2 H4.out.size ?_)
 case h1 => decide
 case h2 => decide
 intro v5 w5 hap
 have H5 := hHd (H4.out.trans (hap.below HO4.out H4.out.size))
 have HO5 := hHd hap.1
 obtain ⟨g5, c5, rfl⟩ := hap.2.2.2
 clear hap
 have HO6 := hHd (HO5.out.below stay_spc ((Below.refl _ _).alloc (Nat.le_refl _) (.cells (cS ⟨#[115, 104, 97, 112, 101, 100]⟩ 1 3 0 0 (.slice none 0 0) true 0 (.slice none 0 0)) 67)))
 have H6 : Hid (Below w.heap.size w (w5.alloc (.cells (cS ⟨#[115, 104, 97, 112, 101, 100]⟩ 1 3 0 0 (.slice none 0 0) true 0 (.slice none 0 0)) 67))) := hHd (H5.out.alloc H5.out.size _)
 go_wp2_with (at_builtin; refine wpList_append_g (ys := spC (leafD nShaped 3 true) (.slice none 0 0) (.slice none 0 0)) stay_spc one_spc Tryz.underlying65 infoS zeroS (by decide) rfl (.tmp 20) (.tmp 22) rfl rfl rfl HO6.out rfl (Blk.new w5 _ _) (leaf_n (a := leafD nShaped 3 true) rfl) ?h1 ?h2 H6.out.size ?_)
 case h1 => decide
 case h2 => decide
 intro v7 w7 hap
 have H7 := hHd (H6.out.trans (hap.below HO6.out H6.out.size))
 have HO7 := hHd hap.1
 obtain ⟨g7, c7, rfl⟩ := hap.2.2.2
 clear hap
 go_wp2
 go_ret
 exact ⟨_, _, rfl, HO7.out, H7.out⟩
theorem rclass_3 (w : World) : Calls Tryz.prog 47 #[.int .i64 3] w (ClassP 3 w) := by
 have N1 : ∀ W, Hid (Calls Tryz.prog 46 #[.string ⟨#[113, 117, 97, 110, 116, 117, 109]⟩, .int .i64 1, .int .u64 1500, .int .u64 100000] W (fun r w' => r = .returned (.agg (cS ⟨#[113, 117, 97, 110, 116, 117, 109]⟩ 1 1 1500 100000 (.slice none 0 0) true 0 (.slice none 0 0))) ∧ Below W.heap.size W w')) := fun W => hHd (srnum_any nQuantum 1 1500 100000 W)
 have N2 : ∀ W, Hid (Calls Tryz.prog 46 #[.string ⟨#[114, 97, 116, 101]⟩, .int .i64 2, .int .u64 0, .int .u64 1000000] W (fun r w' => r = .returned (.agg (cS ⟨#[114, 97, 116, 101]⟩ 1 2 0 1000000 (.slice none 0 0) true 0 (.slice none 0 0))) ∧ Below W.heap.size W w')) := fun W => hHd (srnum_any nRate 2 0 1000000 W)
 have N3 : ∀ W, Hid (Calls Tryz.prog 46 #[.string ⟨#[98, 117, 114, 115, 116]⟩, .int .i64 1, .int .u64 1500, .int .u64 1000000] W (fun r w' => r = .returned (.agg (cS ⟨#[98, 117, 114, 115, 116]⟩ 1 1 1500 1000000 (.slice none 0 0) true 0 (.slice none 0 0))) ∧ Below W.heap.size W w')) := fun W => hHd (srnum_any nBurst 1 1500 1000000 W)
 have N4 : ∀ W, Hid (Calls Tryz.prog 46 #[.string ⟨#[100, 101, 112, 116, 104]⟩, .int .i64 1, .int .u64 1, .int .u64 64] W (fun r w' => r = .returned (.agg (cS ⟨#[100, 101, 112, 116, 104]⟩ 1 1 1 64 (.slice none 0 0) true 0 (.slice none 0 0))) ∧ Below W.heap.size W w')) := fun W => hHd (srnum_any nDepth 1 1 64 W)
 go_enter Tryz.func47, Tryz.ntmps47
 go_wp2_with fail
 refine (N1 _).out.mono ?_
 rintro r w1 ⟨rfl, hB⟩
 have H1 := hHd hB
 clear hB
 go_wp2_with fail
 refine (N2 _).out.mono ?_
 rintro r w2 ⟨rfl, hB⟩
 have H2 := hHd (H1.out.trans (hB.mono H1.out.size))
 clear hB
 go_wp2_with fail
 refine (N3 _).out.mono ?_
 rintro r w3 ⟨rfl, hB⟩
 have H3 := hHd (H2.out.trans (hB.mono H2.out.size))
 clear hB
 have HA : Hid (Below w.heap.size w (w3.alloc (.cells lQ3 67))) := hHd (H3.out.alloc H3.out.size _)
 have HO : Hid (OwnG SpcD 67 9 8 (w3.alloc (.cells lQ3 67)) w.heap.size (fun _ => False) (fun _ => False) (.slice (some ⟨w3.heap.size, 0, none⟩) 3 3) (frOf [(numD nQuantum 1 1500 100000, .nil), (numD nRate 2 0 1000000, .nil), (numD nBurst 1 1500 1000000, .nil)])) := hHd (OwnG.lit (Blk.new w3 _ _) H3.out.size (by decide) (row_leaves [numD nQuantum 1 1500 100000, numD nRate 2 0 1000000, numD nBurst 1 1500 1000000] (by decide)) (fun _ h => h.elim) (fun _ h => h.elim))
 go_wp2_with fail
 refine (N4 _).out.mono ?_
 rintro r w4 ⟨rfl, hB⟩
 have HO4 := hHd ((HO.out.below stay_spc hB).below stay_spc ((Below.refl _ _).alloc (Nat.le_refl _) (.cells (cS ⟨#[100, 101, 112, 116, 104]⟩ 1 1 1 64 (.slice none 0 0) true 0 (.slice none 0 0)) 67)))
 have hb4 : Below w.heap.size w (w4.alloc (.cells (cS ⟨#[100, 101, 112, 116, 104]⟩ 1 1 1 64 (.slice none 0 0) true 0 (.slice none 0 0)) 67)) := (HA.out.trans (hB.mono HA.out.size)).alloc (Nat.le_trans HA.out.size hB.size) _
 have H4 := hHd hb4
 clear hb4 hB
 go_wp2_with (at_builtin; refine wpList_append_g (ys := spC (numD nDepth 1 1 64) (.slice none 0 0) (.slice none 0 0)) stay_spc one_spc Tryz.underlying65 infoS zeroS (by decide) rfl (.tmp 14) (.tmp 16) rfl rfl rfl HO4.out rfl (Blk.new w4 _ _) (leaf_n rfl) ?h1 ?h2 H4.out.size ?_)
 case h1 => decide
 case h2 => decide
 intro v5 w5 hap
 have H5 := hHd (H4.out.trans (hap.below HO4.out H4.out.size))
 have HO5 := hHd hap.1
 obtain ⟨g5, c5, rfl⟩ := hap.2.2.2
 clear hap
 have HO6 := hHd (HO5.out.below stay_spc ((Below.refl _ _).alloc (Nat.le_refl _) (.cells (cS ⟨#[115, 104, 97, 112, 101, 100]⟩ 1 3 0 0 (.slice none 0 0) true 0 (.slice none 0 0)) 67)))
 have H6 : Hid (Below w.heap.size w (w5.alloc (.cells (cS ⟨#[115, 104, 97, 112, 101, 100]⟩ 1 3 0 0 (.slice none 0 0) true 0 (.slice none 0 0)) 67))) := hHd (H5.out.alloc H5.out.size _)
 go_wp2_with (at_builtin; refine wpList_append_g (ys := spC (leafD nShaped 3 true) (.slice none 0 0) (.slice none 0 0)) stay_spc one_spc Tryz.underlying65 infoS zeroS (by decide) rfl (.tmp 20) (.tmp 22) rfl rfl rfl HO6.out rfl (Blk.new w5 _ _) (leaf_n (a := leafD nShaped 3 true) rfl) ?h1 ?h2 H6.out.size ?_)
 case h1 => decide
 case h2 => decide
 intro v7 w7 hap
 have H7 := hHd (H6.out.trans (hap.below HO6.out H6.out.size))
 have HO7 := hHd hap.1
 obtain ⟨g7, c7, rfl⟩ := hap.2.2.2
 clear hap
 go_wp2
 go_ret
 exact ⟨_, _, rfl, HO7.out, H7.out⟩
def RIdentP (s : List UInt8) (w : World) (r : Ending) (w' : World) : Prop := r = .returned (.bool (identX s)) ∧ w = w'
def idL (s : List UInt8) (k : Nat) : Prop := (∀ c, 0 < k → s[0]? = some c → smB c = true) ∧ ∀ j c, j < k → s[j]? = some c → nmB c = true
theorem idL_all {s : List UInt8} (h : idL s s.length) : identX s = (!s.isEmpty && decide (s.length ≤ 12)) := by
 cases s with
 | nil => rfl
 | cons c r =>
  have h1 := h.1 c (by simp) rfl
  have h2 : r.all nmB = true := List.all_eq_true.2 (fun d hd => by
   obtain ⟨j, hj, rfl⟩ := List.getElem_of_mem hd
   exact h.2 (j + 1) _ (by simp; omega) (by rw [List.getElem?_cons_succ]; exact List.getElem?_eq_getElem hj))
  simp [identX, h1, h2]
theorem id_bad {s : List UInt8} {k : Nat} {c : UInt8} (hc : s[k]? = some c) (h : smB c = false) (h2 : k = 0 ∨ nmB c = false) : identX s = false := by
 cases s with
 | nil => rfl
 | cons d r =>
  cases k with
  | zero =>
   simp at hc
   subst hc
   simp [identX, h]
  | succ k =>
   have h3 : nmB c = false := by rcases h2 with h2 | h2; cases h2; exact h2
   have h4 : r.all nmB = false := List.all_eq_false.2 ⟨c, List.mem_of_getElem? (by simpa using hc), by rw [h3]; decide⟩
   simp [identX, h4]
theorem idL_step {s : List UInt8} {k : Nat} {c : UInt8} (hc : s[k]? = some c) (h : idL s k) (h1 : smB c = true ∨ (k ≠ 0 ∧ nmB c = true)) : idL s (k + 1) := by
 have hn : nmB c = true := by rcases h1 with h1 | h1; exact sm_nm h1; exact h1.2
 refine ⟨fun d _ hd => ?_, fun j d hj hd => ?_⟩
 ·by_cases e : k = 0
  ·subst e
   rw [hc] at hd
   injection hd with hd
   rcases h1 with h1 | h1
   ·rw [← hd]; exact h1
   ·exact absurd rfl h1.1
  ·exact h.1 d (by omega) hd
 ·by_cases e : j = k
  ·subst e
   rw [hc] at hd
   injection hd with hd
   rw [← hd]; exact hn
  ·exact h.2 j d (by omega) hd
theorem sm_cases (c : UInt8) : (smB c = true ∧ 97 ≤ (c.toNat : Int) ∧ (c.toNat : Int) ≤ 122) ∨ (smB c = false ∧ (¬ 97 ≤ (c.toNat : Int) ∨ (97 ≤ (c.toNat : Int) ∧ ¬ (c.toNat : Int) ≤ 122))) := by
 unfold smB
 by_cases h1 : 97 ≤ c.toNat
 ·by_cases h2 : c.toNat ≤ 122
  ·exact .inl ⟨by simp [h1, h2], by omega, by omega⟩
  ·exact .inr ⟨by simp [h2], .inr ⟨by omega, by omega⟩⟩
 ·exact .inr ⟨by simp [h1], .inl (by omega)⟩
theorem nm_cases {c : UInt8} (h : smB c = false) : (nmB c = true ∧ (((c.toNat : Int) == 45) = true ∨ (((c.toNat : Int) == 45) = false ∧ ¬ (c.toNat : Int) < 48 ∧ ¬ 57 < (c.toNat : Int)))) ∨
  (nmB c = false ∧ ((c.toNat : Int) == 45) = false ∧ ((c.toNat : Int) < 48 ∨ (¬ (c.toNat : Int) < 48 ∧ 57 < (c.toNat : Int)))) := by
 have e45 : c = 45 ↔ c.toNat = 45 := by
  rw [← UInt8.toNat_inj]
  rfl
 unfold nmB
 rw [h]
 by_cases h0 : c = 45
 ·have h45 := e45.1 h0
  exact .inl ⟨by simp [h0], .inl (by simp; omega)⟩
 ·have hn : (c == 45) = false := beq_eq_false_iff_ne.2 h0
  have hm : ((c.toNat : Int) == 45) = false := beq_eq_false_iff_ne.2 (fun e => h0 (e45.2 (by omega)))
  by_cases h1 : 48 ≤ c.toNat
  ·by_cases h2 : c.toNat ≤ 57
   ·exact .inl ⟨by simp [h1, h2], .inr ⟨hm, by omega, by omega⟩⟩
   ·exact .inr ⟨by simp [h2, hn], hm, .inr ⟨by omega, by omega⟩⟩
  ·exact .inr ⟨by simp [h1, hn], hm, .inl (by omega)⟩
theorem rident_any (s : List UInt8) (hs : s.length ≤ 9223372036854775807) (w : World) : Calls Tryz.prog 93 #[.string (txt s)] w (RIdentP s w) := by
 have hsz := txt_size s
 have ts : (txt s).toList = s := txt_toList s
 go_enter Tryz.func93, Tryz.ntmps93
 go_wp2
 go_loop [3] (fun i => ∃ k : Nat, k ≤ s.length ∧ i = .int .i64 (k : Int) ∧ Hid (idL s k)) (fun i => s.length - (intOf i).toNat)
 case atStart => exact ⟨0, by omega, rfl, hHd ⟨fun c h => by omega, fun j c h => by omega⟩⟩
 case round =>
  obtain ⟨k, hk, rfl, HK⟩ := hrel
  by_cases h1 : k < s.length
  ·have d1 : (k : Int) < (s.length : Int) := by omega
   obtain ⟨c, hc⟩ : ∃ c, s[k]? = some c := ⟨_, List.getElem?_eq_getElem h1⟩
   have hin : k < (txt s).size := by rw [hsz]; exact h1
   have hix : (((txt s)[k]'hin).toNat : Int) = (c.toNat : Int) := by rw [txt_get s k h1 hin]; rw [List.getElem?_eq_getElem h1] at hc; injection hc with hc; rw [hc]
   have HC := hHd hc
   rcases sm_cases c with ⟨hb, g1, g2⟩ | ⟨hb, g⟩
   ·have HS := hHd (idL_step hc HK.out (.inl hb))
    clear hc hb HK
    generalize c.toNat = m at hix g1 g2
    go_wp2
    go_round
    case rel => exact ⟨k + 1, by omega, by go_num, HS⟩
    case measure => simp [intOf]; omega
   ·have hk0 : (k = 0 ∧ Hid (identX s = false)) ∨ (((k : Int) == 0) = false ∧ Hid (k ≠ 0)) := by
     by_cases e : k = 0
     ·exact .inl ⟨e, hHd (id_bad hc hb (.inl e))⟩
     ·exact .inr ⟨beq_eq_false_iff_ne.2 (by omega), hHd e⟩
    rcases hk0 with ⟨rfl, HF⟩ | ⟨n0, HN0⟩
    ·clear hc hb HK
     generalize c.toNat = m at hix g
     rcases g with g | ⟨g, g'⟩
     all_goals
      go_wp2
      go_ret
      exact ⟨by rw [HF.out]; rfl, rfl⟩
    rcases nm_cases hb with ⟨hn, q⟩ | ⟨hn, q1, q⟩
    ·have HS := hHd (idL_step hc HK.out (.inr ⟨HN0.out, hn⟩))
     clear hc hb HK hn
     generalize c.toNat = m at hix g q
     have qq : (((m : Int) == 45) = true ∧ ((m : Int) != 45) = false) ∨ ((((m : Int) == 45) = false ∧ ((m : Int) != 45) = true) ∧ ¬ (m : Int) < 48 ∧ ¬ 57 < (m : Int)) := by
      rcases q with q | ⟨q, q'⟩
      ·exact .inl ⟨q, by unfold bne; rw [q]; rfl⟩
      ·exact .inr ⟨⟨q, by unfold bne; rw [q]; rfl⟩, q'⟩
     clear q
     rcases g with g | ⟨g, g'⟩ <;> rcases qq with ⟨q0, q⟩ | ⟨⟨q0, q⟩, q', q''⟩
     all_goals
      go_wp2
      go_round
      case rel => exact ⟨k + 1, by omega, by go_num, HS⟩
      case measure => simp [intOf]; omega
    ·have HF : Hid (identX s = false) := hHd (id_bad hc hb (.inr hn))
     clear hc hb HK hn
     generalize c.toNat = m at hix g q q1
     have q2 : ((m : Int) != 45) = true := by unfold bne; rw [q1]; rfl
     rcases g with g | ⟨g, g'⟩ <;> rcases q with q | ⟨q, q'⟩
     all_goals
      go_wp2
      go_ret
      exact ⟨by rw [HF.out]; rfl, rfl⟩
  ·obtain rfl : k = s.length := by omega
   have HV := hHd (idL_all HK.out)
   have hw : (s = []) ∨ (s.isEmpty = false ∧ ¬ (s.length : Int) ≤ 12) ∨ (s.isEmpty = false ∧ (s.length : Int) ≤ 12) := by
    cases s with
    | nil => exact .inl rfl
    | cons a r =>
     by_cases h : (a :: r).length ≤ 12
     ·exact .inr (.inr ⟨rfl, by omega⟩)
     ·exact .inr (.inl ⟨rfl, by omega⟩)
   clear HK h1
   rcases hw with rfl | ⟨hE, d⟩ | ⟨hE, d⟩
   ·go_wp2
    go_ret
    exact ⟨by rw [HV.out]; rfl, rfl⟩
   ·have HV2 : Hid (identX s = false) := hHd (by rw [HV.out, hE, Bool.not_false, Bool.true_and]; exact decide_eq_false (by omega))
    clear HV
    go_wp2
    go_ret
    exact ⟨by rw [HV2.out]; rfl, rfl⟩
   ·have HV2 : Hid (identX s = true) := hHd (by rw [HV.out, hE, Bool.not_false, Bool.true_and]; exact decide_eq_true (by omega))
    clear HV
    go_wp2
    go_ret
    exact ⟨by rw [HV2.out]; rfl, rfl⟩
end Go.Proofs.YtodlhgflfcadmaaGreat

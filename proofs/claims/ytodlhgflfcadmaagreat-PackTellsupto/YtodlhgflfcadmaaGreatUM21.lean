/- VadKid -/
import Derived.Test.YtodlhgflfcadmaaGreatUM19
import Derived.Test.YtodlhgflfcadmaaGreatUM20
set_option linter.unusedSimpArgs false
set_option linter.unusedVariables false
set_option maxRecDepth 100000
set_option maxHeartbeats 8000000
namespace Go.Proofs.YtodlhgflfcadmaaGreat
open Go.RowKit
section
attribute [local go_sem] Oper.semAt_some
def SpL (b : Nat) (w : World) (cs : List Value) (x : Sp) : Prop := SpN w (fun g => g < b) (fun g => g < b) cs x
theorem SpL.keep {b b' : Nat} {w w' : World} {cs : List Value} {x : Sp} (h : SpL b w cs x) (hk : ∀ g, g < b → w'.heap[g]? = w.heap[g]?) (hb : b ≤ b') : SpL b' w' cs x :=
 FrN.kept stay_spc h hk (fun g hg => Nat.lt_of_lt_of_le hg hb) hk (fun g hg => Nat.lt_of_lt_of_le hg hb)
def SpOk : SpF → Prop
 | .nil => True
 | .cons a k r => a.names.length ≤ 1000000 ∧ k.len ≤ 1000000 ∧ SpOk k ∧ SpOk r
theorem SpOk.at {f : SpF} : ∀ {i : Nat} {y : Sp}, SpOk f → f.get? i = some y → y.1.names.length ≤ 1000000 ∧ y.2.len ≤ 1000000 ∧ SpOk y.2 := by
 induction f with
 | nil => intro i y _ h; cases h
 | cons a k r _ ih =>
  intro i y hf h
  cases i with
  | zero => injection h with h; subst h; exact ⟨hf.1, hf.2.1, hf.2.2.1⟩
  | succ i => exact ih hf.2.2.2 h
def cntC (c : List Nat) : Array Value := (c.map fun n : Nat => Value.int .i64 (n : Int)).toArray
theorem cnt_at {c : List Nat} {i : Nat} (h : i < c.length) : (cntC c)[i]? = some (.int .i64 ((c.getD i 0 : Nat) : Int)) := by
 unfold cntC
 simp [h, List.getD_eq_getElem?_getD]
theorem cnt_bump {c : List Nat} {i : Nat} (h : i < c.length) : (cntC c).setIfInBounds i (.int .i64 ((c.getD i 0 : Nat) + 1 : Int)) = cntC (bump c i) := by
 unfold cntC bump
 simp [List.getD_eq_getElem?_getD, h, List.map_set]
def kidO10 (s : SpF) (a : NdD) (k : NdF) (c : List Nat) : Option Bad := match findX a.name s with
 | none => some (22, [])
 | some i => match s.get? i with
  | none => none
  | some y => kidX1 y a k (c.getD i 0)
def kidC10 (s : SpF) (a : NdD) (c : List Nat) : List Nat := match findX a.name s with
 | none => c
 | some i => bump c i
def InsideP (f : NdF) : Prop := ∀ (s : Sp) (cs : List Value) (a : NdD) (A : Option Addr) (c b g1 g2 : Nat) (w : World), SpL b w cs s → SpOk s.2 → s.2.len ≤ 1000000 → RowT b w (.slice A f.len c) f → Blk w g1 61 cs.toArray →
 Blk w g2 27 (cN a (.slice A f.len c)) → b ≤ w.heap.size → f.size ≤ 1000000 → OkF f → PrbS 83 #[.pointer (some ⟨g1, 0, none⟩), .pointer (some ⟨g2, 0, none⟩)] (insideX s.2 f) w
structure KidH (s : Sp) (cs : List Value) (a : NdD) (k : NdF) (A : Option Addr) (c b g3 g4 g5 h : Nat) (cnt : List Nat) (w : World) : Prop where
 spl : SpL b w cs s
 spok : SpOk s.2
 few : s.2.len ≤ 1000000
 row : RowT b w (.slice A k.len c) k
 b3 : Blk w g3 61 cs.toArray
 b4 : Blk w g4 27 (cN a (.slice A k.len c))
 b5 : Blk w g5 43 #[.slice (some ⟨h, 0, none⟩) s.2.len s.2.len]
 bh : Blk w h 3 (cntC cnt)
 len : cnt.length = s.2.len
 bw : b ≤ h
 n3 : h ≠ g3
 n4 : h ≠ g4
 n5 : h ≠ g5
 cnt : ∀ i, cnt.getD i 0 ≤ 1000000
 size : k.size ≤ 1000000
 okd : OkD a
 okf : OkF k
theorem KidH.below {s : Sp} {cs : List Value} {a : NdD} {k : NdF} {A : Option Addr} {c b g3 g4 g5 h : Nat} {cnt : List Nat} {w w' : World} (H : KidH s cs a k A c b g3 g4 g5 h cnt w) (hb : Below w.heap.size w w') : KidH s cs a k A c b g3 g4 g5 h cnt w' := by
 have hbw : b ≤ w.heap.size := Nat.le_trans H.bw (Nat.le_of_lt H.bh.lt)
 exact ⟨H.spl.keep (fun g hg => hb.block g (by omega)) (Nat.le_refl _), H.spok, H.few, H.row.under hb hbw (Nat.le_refl _), H.b3.below hb H.b3.lt, H.b4.below hb H.b4.lt, H.b5.below hb H.b5.lt, H.bh.below hb H.bh.lt, H.len, H.bw, H.n3, H.n4, H.n5, H.cnt, H.size, H.okd, H.okf⟩
def KidQ (h : Nat) (cnt : List Nat) (o : Option Bad) (Jx : World → Prop) (W : World) (e : Ending) (W' : World) : Prop := (∃ v, e = .returned v) ∧ (if o.isSome = true then Jx W' else W.grownBy W' (some h) ∧ Blk W' h 3 (cntC cnt))
def YldH (h : Nat) (o : Option Bad) (l : Nat) (Jx : World → Prop) (W : World) : Prop := ∀ args W1, W.grownBy W1 (some h) → EncO o W.heap.size args W1 → ∀ m, YieldAt Fence.wide m Tryz.prog l args W1 (StopY W.heap.size Jx W1)
theorem grown_of_below {w w' : World} {row : Option Nat} (h : Below w.heap.size w w') : w.grownBy w' row := ⟨h.os, h.tape, h.output, h.size, fun k hk _ => h.block k hk⟩
theorem stop_enc (e : Nat) (B : Nat) (W : World) : EncO (some (e, [])) B #[.agg #[.int .i64 (e : Int), .slice none 0 0]] W := ⟨_, rfl, _, rfl, OwnS.nil _ _⟩
theorem kidp_name (sd : SpD) (sf : SpF) (cs : List Value) (a : NdD) (k : NdF) (A : Option Addr) (c b g3 g4 g5 h : Nat) (cnt : List Nat) (l : Nat) (Jx : World → Prop) (W : World)
  (H : KidH (sd, sf) cs a k A c b g3 g4 g5 h cnt W) (hf : findX a.name sf = none) (hY : YldH h (some (22, [])) l Jx W) :
  CallsIn Fence.wide 9 Tryz.prog 105 #[.func (.yield l) #[] #[], .pointer (some ⟨g3, 0, none⟩), .pointer (some ⟨g4, 0, none⟩), .pointer (some ⟨g5, 0, none⟩)] W (KidQ h cnt (some (22, [])) Jx W) := by
 obtain ⟨B0, m0, A0, c0, d0, rfl, -, -, -⟩ := SpN.shape (x := (sd, sf)) H.spl
 have hlb : ∀ g, g < b → g < W.heap.size := fun g hg => by have h1 := H.bw; have h2 := H.bh.lt; omega
 have HFI := hHd (sfind_any a.name (fun g => g < b) (fun g => g < b) _ (sd, sf) W H.spl hlb hlb H.few)
 have hfi : findI a.name sf = -1 := by unfold findI; rw [hf]
 obtain ⟨q0, q1, q2, q3, q4, q5, q6, q7, q8⟩ := cl9 H.b3
 have r0 := (H.b4.cell 0).trans rfl
 have HY := hHd hY
 simp only [hfi] at HFI
 clear H hf hfi hY hlb
 refine callsIn_of_wp Tryz.func105 rfl trivial ?_ rfl
 simp only [Tryz.ntmps105, List.size_toArray, List.length_cons, List.length_nil, Nat.reduceAdd, Nat.reduceSub, Array.replicate_succ, Array.replicate_zero, List.push_toArray, List.append_toArray, List.nil_append, List.cons_append]
 gi_wp2_with fail
 refine ⟨trivial, calls_wideR (ro := none) (HFI.out.mono ?_)⟩
 rintro r w1 ⟨rfl, hb1⟩
 clear q0 q1 q2 q3 q4 q5 q6 q7 q8 r0
 obtain ⟨fn, tmps, assign, body, hy, hR⟩ := HY.out #[.agg #[.int .i64 22, .slice none 0 0]] w1 (grown_of_below hb1) (stop_enc 22 _ _) (9 - 1)
 clear hb1
 gi_wp2
 refine RoundIn.mono hR ?_
 rintro e W3 ⟨rfl, hj3, hk3⟩
 have HJ := hHd hj3
 clear hk3 hj3 hR hy
 gi_wp2
 refine bodyPost_ret (results_none rfl _ _ _) rfl ?_
 exact ⟨⟨_, rfl⟩, HJ.out⟩
theorem kidp_val (sd : SpD) (sf : SpF) (cs : List Value) (a : NdD) (k : NdF) (A : Option Addr) (c b g3 g4 g5 h : Nat) (cnt : List Nat) (l : Nat) (Jx : World → Prop) (W : World) (H : KidH (sd, sf) cs a k A c b g3 g4 g5 h cnt W) (i : Nat) (nm : List UInt8) (kd ty lo hi : Nat) (ns : List (List UInt8)) (mu : Bool) (mo : Nat) (yf : SpF) (hf : findX a.name sf = some i) (hg : sf.get? i = some ((⟨nm, kd, ty, lo, hi, ns, mu, mo⟩ : SpD), yf)) (hX : fitX10 (⟨nm, kd, ty, lo, hi, ns, mu, mo⟩ : SpD) a k = false) (hY : YldH h (some (23, [])) l Jx W) :
  CallsIn Fence.wide 9 Tryz.prog 105 #[.func (.yield l) #[] #[], .pointer (some ⟨g3, 0, none⟩), .pointer (some ⟨g4, 0, none⟩), .pointer (some ⟨g5, 0, none⟩)] W (KidQ h (bump cnt i) (some (23, [])) Jx W) := by
 obtain ⟨B0, m0, A0, c0, d0, rfl, -, -, hrow0⟩ := SpN.shape (x := (sd, sf)) H.spl
 have hlb : ∀ g, g < b → g < W.heap.size := fun g hg => by have h1 := H.bw; have h2 := H.bh.lt; omega
 have hil : i < sf.len := Fr.get_lt hg
 obtain ⟨g, o, c', cs', e, -, hgb, hN, hcl⟩ := hrow0.at hg
 injection e with e1 e2 e3
 subst e1 e3
 obtain ⟨B1, m1, A1, c1, d1, rfl, hvn, hdn, hyrow⟩ := SpN.shape (x := ((⟨nm, kd, ty, lo, hi, ns, mu, mo⟩ : SpD), yf)) hN
 simp only at hvn hdn hyrow
 have hsy := H.spok.at hg
 have HFI := hHd (sfind_any a.name (fun g => g < b) (fun g => g < b) _ (sd, sf) W H.spl hlb hlb H.few)
 have hfi : findI a.name sf = (i : Int) := by unfold findI; rw [hf]
 simp only [hfi] at HFI
 have hgl : g < W.heap.size := hlb g hgb
 have hcl' : ∀ (V : World), W.grownBy V (some h) → ∀ j u, ((cT nm kd ty lo hi ns mu mo B1 m1 A1 yf.len c1) : Array Value).toList[j]? = some u → V.cell? ⟨g, o + i * 9 + j, none⟩ = some u := fun V hV j u hu =>
  (World.cell?_of_block (w := W) (a := ⟨g, o + i * 9 + j, none⟩) (hV.block g hgl (fun e => by injection e with e; have := H.bw; omega))).trans (hcl j u (by simpa using hu))
 have HCL := hHd hcl'
 have hlen : cnt.length = sf.len := H.len
 have HLEN := hHd hlen
 have HH := hHd H
 have HSY := hHd hsy
 have HVN := hHd (And.intro hvn (And.intro hdn hN))
 have HLB := hHd hlb
 have HY := hHd hY
 have HF := hHd (And.intro hf hg)
 have HCNT : Hid (∃ x : Nat, x = cnt.getD i 0 ∧ x ≤ 1000000) := hHd ⟨_, rfl, H.cnt i⟩
 obtain ⟨x, hx, hx1⟩ := HCNT.out
 have HX := hHd hx
 obtain ⟨q0, q1, q2, q3, q4, q5, q6, q7, q8⟩ := cl9 H.b3
 have r0 := (H.b4.cell 0).trans rfl
 have hfew := H.few
 simp only at hfew
 have i0 : (0 : Int) ≤ (i : Int) := by omega
 have i1 : (i : Int) < (sf.len : Int) := by omega
 have i2 : (sf.len : Int) ≤ 1000000 := by omega
 clear H hf hfi hY hlb hg hil hN hcl hvn hdn hyrow hsy hcl' hrow0 hgb hx e2 hlen
 refine callsIn_of_wp Tryz.func105 rfl trivial ?_ rfl
 simp only [Tryz.ntmps105, List.size_toArray, List.length_cons, List.length_nil, Nat.reduceAdd, Nat.reduceSub, Array.replicate_succ, Array.replicate_zero, List.push_toArray, List.append_toArray, List.nil_append, List.cons_append]
 gi_wp2_with fail
 refine ⟨trivial, calls_wideR (ro := none) (HFI.out.mono ?_)⟩
 rintro r w1 ⟨rfl, hb1⟩
 clear q0 q1 q2 q3 q4 q5 q6 q7 q8 r0
 have HB1 := hHd hb1
 have HK1 := hHd (HH.out.below hb1)
 clear hb1
 have s8 := (HK1.out.b3.cell 8).trans rfl
 have c0' : w1.cell? ⟨g, o + i * 9, none⟩ = some (.string (txt nm)) := HCL.out w1 (grown_of_below HB1.out) 0 _ rfl
 have c1' := HCL.out w1 (grown_of_below HB1.out) 1 _ rfl
 have c2' := HCL.out w1 (grown_of_below HB1.out) 2 _ rfl
 have c3' := HCL.out w1 (grown_of_below HB1.out) 3 _ rfl
 have c4' := HCL.out w1 (grown_of_below HB1.out) 4 _ rfl
 have c5' := HCL.out w1 (grown_of_below HB1.out) 5 _ rfl
 have c6' := HCL.out w1 (grown_of_below HB1.out) 6 _ rfl
 have c7' := HCL.out w1 (grown_of_below HB1.out) 7 _ rfl
 have c8' := HCL.out w1 (grown_of_below HB1.out) 8 _ rfl
 have hal : Below w1.heap.size w1 (w1.alloc (.cells (cT nm kd ty lo hi ns mu mo B1 m1 A1 yf.len c1) 61)) := bAl
 have t5 := (HK1.out.b5.below hal HK1.out.b5.lt).cell 0 |>.trans rfl
 have thb : Blk (w1.alloc (.cells (cT nm kd ty lo hi ns mu mo B1 m1 A1 yf.len c1) 61)) h 3 (cntC cnt) := HK1.out.bh.below hal HK1.out.bh.lt
 have th : (w1.alloc (.cells (cT nm kd ty lo hi ns mu mo B1 m1 A1 yf.len c1) 61)).cell? ⟨h, i, none⟩ = some (.int .i64 (x : Int)) := by rw [thb.cell, HX.out]; exact cnt_at (by rw [HLEN.out]; omega)
 have tf : (w1.alloc (.cells (cT nm kd ty lo hi ns mu mo B1 m1 A1 yf.len c1) 61)).frozen? ⟨h, i, none⟩ = false := thb.frozen i
 have j1 : (x : Int) ≤ 1000000 := by omega
 have j0 : (0 : Int) ≤ (x : Int) := by omega
 have hg3 : W.grownBy ((w1.alloc (.cells (cT nm kd ty lo hi ns mu mo B1 m1 A1 yf.len c1) 61)).setCell ⟨h, i, none⟩ (.int .i64 ((x : Int) + 1))) (some h) := by
  have h1 : W.grownBy (w1.alloc (.cells (cT nm kd ty lo hi ns mu mo B1 m1 A1 yf.len c1) 61)) (some h) := grown_of_below (HB1.out.trans (hal.mono HB1.out.size))
  exact grown_trans h1 ((grown_setAny (w1.alloc (.cells (cT nm kd ty lo hi ns mu mo B1 m1 A1 yf.len c1) 61)) h i _ : (w1.alloc (.cells (cT nm kd ty lo hi ns mu mo B1 m1 A1 yf.len c1) 61)).grownBy _ (some h)))
 have hoth : ∀ {q t : Nat} {zs : Array Value}, h ≠ q → Blk (w1.alloc (.cells (cT nm kd ty lo hi ns mu mo B1 m1 A1 yf.len c1) 61)) q t zs → Blk ((w1.alloc (.cells (cT nm kd ty lo hi ns mu mo B1 m1 A1 yf.len c1) 61)).setCell ⟨h, i, none⟩ (.int .i64 ((x : Int) + 1))) q t zs := fun hne hb => hb.far (p := ⟨h, i, none⟩) (fun e => hne e.symm) _
 have hb6 : Blk ((w1.alloc (.cells (cT nm kd ty lo hi ns mu mo B1 m1 A1 yf.len c1) 61)).setCell ⟨h, i, none⟩ (.int .i64 ((x : Int) + 1))) w1.heap.size 61 (cT nm kd ty lo hi ns mu mo B1 m1 A1 yf.len c1) := hoth (by have := HK1.out.bh.lt; omega) (Blk.new w1 61 (cT nm kd ty lo hi ns mu mo B1 m1 A1 yf.len c1))
 have hb4 : Blk ((w1.alloc (.cells (cT nm kd ty lo hi ns mu mo B1 m1 A1 yf.len c1) 61)).setCell ⟨h, i, none⟩ (.int .i64 ((x : Int) + 1))) g4 27 (cN a (.slice A k.len c)) := hoth HK1.out.n4 (HK1.out.b4.below hal HK1.out.b4.lt)
 have hb5 : Blk ((w1.alloc (.cells (cT nm kd ty lo hi ns mu mo B1 m1 A1 yf.len c1) 61)).setCell ⟨h, i, none⟩ (.int .i64 ((x : Int) + 1))) g5 43 #[.slice (some ⟨h, 0, none⟩) sf.len sf.len] := hoth HK1.out.n5 (HK1.out.b5.below hal HK1.out.b5.lt)
 have hbh : Blk ((w1.alloc (.cells (cT nm kd ty lo hi ns mu mo B1 m1 A1 yf.len c1) 61)).setCell ⟨h, i, none⟩ (.int .i64 ((x : Int) + 1))) h 3 (cntC (bump cnt i)) := by
  have h1 := thb.set_ i (.int .i64 ((x : Int) + 1))
  rw [HX.out] at h1 ⊢
  rw [cnt_bump (by rw [HLEN.out]; omega)] at h1
  exact h1
 have hvn3 : Vals ((w1.alloc (.cells (cT nm kd ty lo hi ns mu mo B1 m1 A1 yf.len c1) 61)).setCell ⟨h, i, none⟩ (.int .i64 ((x : Int) + 1))) d1 (.slice B1 ns.length m1) (txts ns) := HVN.out.1.heap (fun h0 => hg3.block d1 (HLB.out d1 (HVN.out.2.1 (by rwa [txts_len] at h0))) (fun e => by injection e with e; have h1 := HH.out.bw; have h2 := HVN.out.2.1 (by rwa [txts_len] at h0); omega))
 have HWD := hHd (And.intro hg3 (And.intro hb6 (And.intro hb4 (And.intro hb5 hbh))))
 have HFT := hHd (vfits_any nm kd ty lo hi ns mu mo B1 m1 d1 A1 yf.len c1 a k A c ((w1.alloc (.cells (cT nm kd ty lo hi ns mu mo B1 m1 A1 yf.len c1) 61)).setCell ⟨h, i, none⟩ (.int .i64 ((x : Int) + 1))) hvn3 HSY.out.1 HH.out.okd (by have h1 := Fr.len_size k; have h2 := HH.out.size; omega))
 rw [hX] at HFT
 clear hX
 have HDY : Hid (SpL b ((w1.alloc (.cells (cT nm kd ty lo hi ns mu mo B1 m1 A1 yf.len c1) 61)).setCell ⟨h, i, none⟩ (.int .i64 ((x : Int) + 1))) (cT nm kd ty lo hi ns mu mo B1 m1 A1 yf.len c1).toList ((⟨nm, kd, ty, lo, hi, ns, mu, mo⟩ : SpD), yf)) := hHd (SpL.keep (b := b) (w := W) HVN.out.2.2 (fun q hq => hg3.block q (HLB.out q hq) (fun e => by injection e with e; have := HH.out.bw; omega)) (Nat.le_refl _))
 have HRK : Hid (RowT b ((w1.alloc (.cells (cT nm kd ty lo hi ns mu mo B1 m1 A1 yf.len c1) 61)).setCell ⟨h, i, none⟩ (.int .i64 ((x : Int) + 1))) (.slice A k.len c) k) := hHd (HH.out.row.keep (fun q hq => hg3.block q (HLB.out q hq) (fun e => by injection e with e; have := HH.out.bw; omega)) (Nat.le_refl _))
 obtain ⟨b6_0, b6_1, b6_2, b6_3, b6_4, b6_5, b6_6, b6_7, b6_8⟩ := cl9 hb6
 obtain ⟨n0, n1, n2, n3, n4, n5⟩ := cl6 hb4
 clear hg3 hoth hb6 hb4 hb5 hbh hvn3 hal thb
 gi_wp2_with fail
 refine ⟨trivial, calls_wideR (ro := none) (HFT.out.mono ?_)⟩
 rintro r w4 ⟨rfl, hb4⟩
 clear b6_0 b6_1 b6_2 b6_3 b6_4 b6_5 b6_6 b6_7 b6_8 n0 n1 n2 n3 n4 n5 c0' c1' c2' c3' c4' c5' c6' c7' c8' s8 t5 th tf
 obtain ⟨fn, tmps, assign, body, hy, hR⟩ := HY.out #[.agg #[.int .i64 23, .slice none 0 0]] w4 (grown_trans HWD.out.1 (grown_of_below hb4)) (stop_enc 23 _ _) (9 - 1)
 clear hb4
 gi_wp2
 refine RoundIn.mono hR ?_
 rintro e W3 ⟨rfl, hj3, hk3⟩
 have HJ := hHd hj3
 clear hk3 hj3 hR hy
 gi_wp2
 refine bodyPost_ret (results_none rfl _ _ _) rfl ?_
 exact ⟨⟨_, rfl⟩, HJ.out⟩
theorem kidp_leaf (sd : SpD) (sf : SpF) (cs : List Value) (a : NdD) (k : NdF) (A : Option Addr) (c b g3 g4 g5 h : Nat) (cnt : List Nat) (l : Nat) (Jx : World → Prop) (W : World) (H : KidH (sd, sf) cs a k A c b g3 g4 g5 h cnt W) (i : Nat) (nm : List UInt8) (kd ty lo hi : Nat) (ns : List (List UInt8)) (mu : Bool) (mo : Nat) (yf : SpF) (hf : findX a.name sf = some i) (hg : sf.get? i = some ((⟨nm, kd, ty, lo, hi, ns, mu, mo⟩ : SpD), yf)) (hX : fitX10 (⟨nm, kd, ty, lo, hi, ns, mu, mo⟩ : SpD) a k = true) (hkd : kd = 1) (hY : YldH h none l Jx W) :
  CallsIn Fence.wide 9 Tryz.prog 105 #[.func (.yield l) #[] #[], .pointer (some ⟨g3, 0, none⟩), .pointer (some ⟨g4, 0, none⟩), .pointer (some ⟨g5, 0, none⟩)] W (KidQ h (bump cnt i) none Jx W) := by
 have HKD := hHd hkd
 clear hkd
 obtain ⟨B0, m0, A0, c0, d0, rfl, -, -, hrow0⟩ := SpN.shape (x := (sd, sf)) H.spl
 have hlb : ∀ g, g < b → g < W.heap.size := fun g hg => by have h1 := H.bw; have h2 := H.bh.lt; omega
 have hil : i < sf.len := Fr.get_lt hg
 obtain ⟨g, o, c', cs', e, -, hgb, hN, hcl⟩ := hrow0.at hg
 injection e with e1 e2 e3
 subst e1 e3
 obtain ⟨B1, m1, A1, c1, d1, rfl, hvn, hdn, hyrow⟩ := SpN.shape (x := ((⟨nm, kd, ty, lo, hi, ns, mu, mo⟩ : SpD), yf)) hN
 simp only at hvn hdn hyrow
 have hsy := H.spok.at hg
 have HFI := hHd (sfind_any a.name (fun g => g < b) (fun g => g < b) _ (sd, sf) W H.spl hlb hlb H.few)
 have hfi : findI a.name sf = (i : Int) := by unfold findI; rw [hf]
 simp only [hfi] at HFI
 have hgl : g < W.heap.size := hlb g hgb
 have hcl' : ∀ (V : World), W.grownBy V (some h) → ∀ j u, ((cT nm kd ty lo hi ns mu mo B1 m1 A1 yf.len c1) : Array Value).toList[j]? = some u → V.cell? ⟨g, o + i * 9 + j, none⟩ = some u := fun V hV j u hu =>
  (World.cell?_of_block (w := W) (a := ⟨g, o + i * 9 + j, none⟩) (hV.block g hgl (fun e => by injection e with e; have := H.bw; omega))).trans (hcl j u (by simpa using hu))
 have HCL := hHd hcl'
 have hlen : cnt.length = sf.len := H.len
 have HLEN := hHd hlen
 have HH := hHd H
 have HSY := hHd hsy
 have HVN := hHd (And.intro hvn (And.intro hdn hN))
 have HLB := hHd hlb
 have HY := hHd hY
 have HF := hHd (And.intro hf hg)
 have HCNT : Hid (∃ x : Nat, x = cnt.getD i 0 ∧ x ≤ 1000000) := hHd ⟨_, rfl, H.cnt i⟩
 obtain ⟨x, hx, hx1⟩ := HCNT.out
 have HX := hHd hx
 obtain ⟨q0, q1, q2, q3, q4, q5, q6, q7, q8⟩ := cl9 H.b3
 have r0 := (H.b4.cell 0).trans rfl
 have hfew := H.few
 simp only at hfew
 have i0 : (0 : Int) ≤ (i : Int) := by omega
 have i1 : (i : Int) < (sf.len : Int) := by omega
 have i2 : (sf.len : Int) ≤ 1000000 := by omega
 clear H hf hfi hY hlb hg hil hN hcl hvn hdn hyrow hsy hcl' hrow0 hgb hx e2 hlen
 refine callsIn_of_wp Tryz.func105 rfl trivial ?_ rfl
 simp only [Tryz.ntmps105, List.size_toArray, List.length_cons, List.length_nil, Nat.reduceAdd, Nat.reduceSub, Array.replicate_succ, Array.replicate_zero, List.push_toArray, List.append_toArray, List.nil_append, List.cons_append]
 gi_wp2_with fail
 refine ⟨trivial, calls_wideR (ro := none) (HFI.out.mono ?_)⟩
 rintro r w1 ⟨rfl, hb1⟩
 clear q0 q1 q2 q3 q4 q5 q6 q7 q8 r0
 have HB1 := hHd hb1
 have HK1 := hHd (HH.out.below hb1)
 clear hb1
 have s8 := (HK1.out.b3.cell 8).trans rfl
 have c0' : w1.cell? ⟨g, o + i * 9, none⟩ = some (.string (txt nm)) := HCL.out w1 (grown_of_below HB1.out) 0 _ rfl
 have c1' := HCL.out w1 (grown_of_below HB1.out) 1 _ rfl
 have c2' := HCL.out w1 (grown_of_below HB1.out) 2 _ rfl
 have c3' := HCL.out w1 (grown_of_below HB1.out) 3 _ rfl
 have c4' := HCL.out w1 (grown_of_below HB1.out) 4 _ rfl
 have c5' := HCL.out w1 (grown_of_below HB1.out) 5 _ rfl
 have c6' := HCL.out w1 (grown_of_below HB1.out) 6 _ rfl
 have c7' := HCL.out w1 (grown_of_below HB1.out) 7 _ rfl
 have c8' := HCL.out w1 (grown_of_below HB1.out) 8 _ rfl
 have hal : Below w1.heap.size w1 (w1.alloc (.cells (cT nm kd ty lo hi ns mu mo B1 m1 A1 yf.len c1) 61)) := bAl
 have t5 := (HK1.out.b5.below hal HK1.out.b5.lt).cell 0 |>.trans rfl
 have thb : Blk (w1.alloc (.cells (cT nm kd ty lo hi ns mu mo B1 m1 A1 yf.len c1) 61)) h 3 (cntC cnt) := HK1.out.bh.below hal HK1.out.bh.lt
 have th : (w1.alloc (.cells (cT nm kd ty lo hi ns mu mo B1 m1 A1 yf.len c1) 61)).cell? ⟨h, i, none⟩ = some (.int .i64 (x : Int)) := by rw [thb.cell, HX.out]; exact cnt_at (by rw [HLEN.out]; omega)
 have tf : (w1.alloc (.cells (cT nm kd ty lo hi ns mu mo B1 m1 A1 yf.len c1) 61)).frozen? ⟨h, i, none⟩ = false := thb.frozen i
 have j1 : (x : Int) ≤ 1000000 := by omega
 have j0 : (0 : Int) ≤ (x : Int) := by omega
 have hg3 : W.grownBy ((w1.alloc (.cells (cT nm kd ty lo hi ns mu mo B1 m1 A1 yf.len c1) 61)).setCell ⟨h, i, none⟩ (.int .i64 ((x : Int) + 1))) (some h) := by
  have h1 : W.grownBy (w1.alloc (.cells (cT nm kd ty lo hi ns mu mo B1 m1 A1 yf.len c1) 61)) (some h) := grown_of_below (HB1.out.trans (hal.mono HB1.out.size))
  exact grown_trans h1 ((grown_setAny (w1.alloc (.cells (cT nm kd ty lo hi ns mu mo B1 m1 A1 yf.len c1) 61)) h i _ : (w1.alloc (.cells (cT nm kd ty lo hi ns mu mo B1 m1 A1 yf.len c1) 61)).grownBy _ (some h)))
 have hoth : ∀ {q t : Nat} {zs : Array Value}, h ≠ q → Blk (w1.alloc (.cells (cT nm kd ty lo hi ns mu mo B1 m1 A1 yf.len c1) 61)) q t zs → Blk ((w1.alloc (.cells (cT nm kd ty lo hi ns mu mo B1 m1 A1 yf.len c1) 61)).setCell ⟨h, i, none⟩ (.int .i64 ((x : Int) + 1))) q t zs := fun hne hb => hb.far (p := ⟨h, i, none⟩) (fun e => hne e.symm) _
 have hb6 : Blk ((w1.alloc (.cells (cT nm kd ty lo hi ns mu mo B1 m1 A1 yf.len c1) 61)).setCell ⟨h, i, none⟩ (.int .i64 ((x : Int) + 1))) w1.heap.size 61 (cT nm kd ty lo hi ns mu mo B1 m1 A1 yf.len c1) := hoth (by have := HK1.out.bh.lt; omega) (Blk.new w1 61 (cT nm kd ty lo hi ns mu mo B1 m1 A1 yf.len c1))
 have hb4 : Blk ((w1.alloc (.cells (cT nm kd ty lo hi ns mu mo B1 m1 A1 yf.len c1) 61)).setCell ⟨h, i, none⟩ (.int .i64 ((x : Int) + 1))) g4 27 (cN a (.slice A k.len c)) := hoth HK1.out.n4 (HK1.out.b4.below hal HK1.out.b4.lt)
 have hb5 : Blk ((w1.alloc (.cells (cT nm kd ty lo hi ns mu mo B1 m1 A1 yf.len c1) 61)).setCell ⟨h, i, none⟩ (.int .i64 ((x : Int) + 1))) g5 43 #[.slice (some ⟨h, 0, none⟩) sf.len sf.len] := hoth HK1.out.n5 (HK1.out.b5.below hal HK1.out.b5.lt)
 have hbh : Blk ((w1.alloc (.cells (cT nm kd ty lo hi ns mu mo B1 m1 A1 yf.len c1) 61)).setCell ⟨h, i, none⟩ (.int .i64 ((x : Int) + 1))) h 3 (cntC (bump cnt i)) := by
  have h1 := thb.set_ i (.int .i64 ((x : Int) + 1))
  rw [HX.out] at h1 ⊢
  rw [cnt_bump (by rw [HLEN.out]; omega)] at h1
  exact h1
 have hvn3 : Vals ((w1.alloc (.cells (cT nm kd ty lo hi ns mu mo B1 m1 A1 yf.len c1) 61)).setCell ⟨h, i, none⟩ (.int .i64 ((x : Int) + 1))) d1 (.slice B1 ns.length m1) (txts ns) := HVN.out.1.heap (fun h0 => hg3.block d1 (HLB.out d1 (HVN.out.2.1 (by rwa [txts_len] at h0))) (fun e => by injection e with e; have h1 := HH.out.bw; have h2 := HVN.out.2.1 (by rwa [txts_len] at h0); omega))
 have HWD := hHd (And.intro hg3 (And.intro hb6 (And.intro hb4 (And.intro hb5 hbh))))
 have HFT := hHd (vfits_any nm kd ty lo hi ns mu mo B1 m1 d1 A1 yf.len c1 a k A c ((w1.alloc (.cells (cT nm kd ty lo hi ns mu mo B1 m1 A1 yf.len c1) 61)).setCell ⟨h, i, none⟩ (.int .i64 ((x : Int) + 1))) hvn3 HSY.out.1 HH.out.okd (by have h1 := Fr.len_size k; have h2 := HH.out.size; omega))
 rw [hX] at HFT
 clear hX
 have HDY : Hid (SpL b ((w1.alloc (.cells (cT nm kd ty lo hi ns mu mo B1 m1 A1 yf.len c1) 61)).setCell ⟨h, i, none⟩ (.int .i64 ((x : Int) + 1))) (cT nm kd ty lo hi ns mu mo B1 m1 A1 yf.len c1).toList ((⟨nm, kd, ty, lo, hi, ns, mu, mo⟩ : SpD), yf)) := hHd (SpL.keep (b := b) (w := W) HVN.out.2.2 (fun q hq => hg3.block q (HLB.out q hq) (fun e => by injection e with e; have := HH.out.bw; omega)) (Nat.le_refl _))
 have HRK : Hid (RowT b ((w1.alloc (.cells (cT nm kd ty lo hi ns mu mo B1 m1 A1 yf.len c1) 61)).setCell ⟨h, i, none⟩ (.int .i64 ((x : Int) + 1))) (.slice A k.len c) k) := hHd (HH.out.row.keep (fun q hq => hg3.block q (HLB.out q hq) (fun e => by injection e with e; have := HH.out.bw; omega)) (Nat.le_refl _))
 obtain ⟨b6_0, b6_1, b6_2, b6_3, b6_4, b6_5, b6_6, b6_7, b6_8⟩ := cl9 hb6
 obtain ⟨n0, n1, n2, n3, n4, n5⟩ := cl6 hb4
 clear hg3 hoth hb6 hb4 hb5 hbh hvn3 hal thb
 gi_wp2_with fail
 refine ⟨trivial, calls_wideR (ro := none) (HFT.out.mono ?_)⟩
 rintro r w4 ⟨rfl, hb4⟩
 have k3 : ((kd : Int) == 3) = false := beq_eq_false_iff_ne.2 (by have := HKD.out; omega)
 have k1 : ((kd : Int) == 1) = true := beq_iff_eq.2 (by have := HKD.out; omega)
 have k1' : ((kd : Int) != 1) = false := by unfold bne; rw [k1]; rfl
 clear b6_0 b6_1 b6_2 b6_3 b6_4 b6_5 b6_6 b6_7 b6_8 n0 n1 n2 n3 n4 n5 c0' c1' c2' c3' c4' c5' c6' c7' c8' s8 t5 th tf
 have hbd : Below ((w1.alloc (.cells (cT nm kd ty lo hi ns mu mo B1 m1 A1 yf.len c1) 61)).setCell ⟨h, i, none⟩ (.int .i64 ((x : Int) + 1))).heap.size ((w1.alloc (.cells (cT nm kd ty lo hi ns mu mo B1 m1 A1 yf.len c1) 61)).setCell ⟨h, i, none⟩ (.int .i64 ((x : Int) + 1))) w4.drew := hb4.drew
 have HWR : Hid (W.grownBy w4.drew (some h) ∧ Blk w4.drew w1.heap.size 61 (cT nm kd ty lo hi ns mu mo B1 m1 A1 yf.len c1) ∧ Blk w4.drew g4 27 (cN a (.slice A k.len c)) ∧ Blk w4.drew g5 43 #[.slice (some ⟨h, 0, none⟩) sf.len sf.len] ∧ Blk w4.drew h 3 (cntC (bump cnt i))) := hHd ⟨grown_trans HWD.out.1 (grown_of_below hbd), HWD.out.2.1.below hbd HWD.out.2.1.lt, HWD.out.2.2.1.below hbd HWD.out.2.2.1.lt, HWD.out.2.2.2.1.below hbd HWD.out.2.2.2.1.lt, HWD.out.2.2.2.2.below hbd HWD.out.2.2.2.2.lt⟩
 have HCI : Hid ((cntC (bump cnt i))[i]? = some (.int .i64 ((x : Int) + 1))) := hHd (by
  have h1 := cnt_at (c := bump cnt i) (i := i) (by rw [bump_len, HLEN.out]; omega)
  rw [bump_get i (by rw [HLEN.out]; omega), if_pos rfl, ← HX.out] at h1
  rw [h1]
  simp)
 clear hb4 hbd
 gi_wp2_with fail
 refine ⟨fun _ _ => trivial, ?_⟩
 gi_wp2_with fail
 refine wpIn_region_calm (ro := none) ?_
 refine wpIn_region_heldI [] (S := fun _ => True) (by kernel_rfl) trivial (fun hS => ?_)
 refine tkI 0 [0, 1, 2, 3, 4, 5, 6, 7, 8, 9, 10, 11, 12, 13, 14, 15, 16, 17] hS ?_
 refine heldI_more (S' := fun w' => Blk w' w1.heap.size 61 (cT nm kd ty lo hi ns mu mo B1 m1 A1 yf.len c1)) (fun _ _ => trivial) _ _ _ _ ?_
 replace hS := HWR.out.2.1
 refine tkI 1 [1, 2, 3, 4, 5, 6, 7, 8, 9, 10, 11, 12, 13, 14, 15, 16, 17] hS ?_ (hy := fun w hSw => by have y1 := (hSw.cell 1).trans rfl; (go_simp <;> with_reducible rfl))
 refine tkI 2 [2, 3, 4, 5, 6, 7, 8, 9, 10, 11, 12, 13, 14, 15, 16, 17] hS ?_
 refine tkI 3 [3, 4, 5, 6, 7, 8, 9, 10, 11, 12, 13, 14, 15, 16, 17] hS ?_
 refine tkIo 4 [4, 6, 7, 10, 11, 12, 13, 14, 15, 16, 17] hS ?_
 refine tkIo 5 [5, 6, 7, 10, 11, 12, 13, 14, 15, 16, 17] hS ?_
 refine tkIo 6 [6, 7, 10, 11, 12, 13, 14, 15, 16, 17] hS ?_
 refine tkIo 7 [7, 10, 11, 12, 13, 14, 15, 16, 17] hS ?_
 refine tkIo 8 [8, 9, 10, 11, 12, 13, 14, 15, 16, 17] hS ?_
 refine tkIo 9 [9, 10, 11, 12, 13, 14, 15, 16, 17] hS ?_
 refine tkIo 10 [10, 11, 12, 13, 14, 15, 16, 17] hS ?_
 refine tkI 11 [11, 12, 13, 14, 15, 16, 17] hS ?_
 refine tkI 12 [12, 13, 14, 15, 16, 17] hS ?_
 refine tkIo 13 [13, 15, 16, 17] hS ?_
 refine tkIo 14 [14, 15, 16, 17] hS ?_
 refine tkIo 15 [15, 16, 17] hS ?_
 refine tkIo 16 [16, 17] hS ?_
 refine tkI 17 [17] hS ?_
 refine heldI_done (by kernel_rfl) ?_ _
 refine NoPanic.normal ?_
 clear hS
 have z1 := (HWR.out.2.1.cell 1).trans rfl
 gi_wp2
 go_end0
 exact ⟨⟨_, rfl⟩, HWR.out.1, HWR.out.2.2.2.2⟩
theorem kidp_many (sd : SpD) (sf : SpF) (cs : List Value) (a : NdD) (k : NdF) (A : Option Addr) (c b g3 g4 g5 h : Nat) (cnt : List Nat) (l : Nat) (Jx : World → Prop) (W : World) (H : KidH (sd, sf) cs a k A c b g3 g4 g5 h cnt W) (i : Nat) (nm : List UInt8) (kd ty lo hi : Nat) (ns : List (List UInt8)) (mu : Bool) (mo : Nat) (yf : SpF) (hf : findX a.name sf = some i) (hg : sf.get? i = some ((⟨nm, kd, ty, lo, hi, ns, mu, mo⟩ : SpD), yf)) (hX : fitX10 (⟨nm, kd, ty, lo, hi, ns, mu, mo⟩ : SpD) a k = true) (hkd : kd = 3) (hmo : mo ≤ cnt.getD i 0) (hY : YldH h (some (27, [])) l Jx W) :
  CallsIn Fence.wide 9 Tryz.prog 105 #[.func (.yield l) #[] #[], .pointer (some ⟨g3, 0, none⟩), .pointer (some ⟨g4, 0, none⟩), .pointer (some ⟨g5, 0, none⟩)] W (KidQ h (bump cnt i) (some (27, [])) Jx W) := by
 have HKD := hHd (And.intro hkd hmo)
 clear hkd hmo
 obtain ⟨B0, m0, A0, c0, d0, rfl, -, -, hrow0⟩ := SpN.shape (x := (sd, sf)) H.spl
 have hlb : ∀ g, g < b → g < W.heap.size := fun g hg => by have h1 := H.bw; have h2 := H.bh.lt; omega
 have hil : i < sf.len := Fr.get_lt hg
 obtain ⟨g, o, c', cs', e, -, hgb, hN, hcl⟩ := hrow0.at hg
 injection e with e1 e2 e3
 subst e1 e3
 obtain ⟨B1, m1, A1, c1, d1, rfl, hvn, hdn, hyrow⟩ := SpN.shape (x := ((⟨nm, kd, ty, lo, hi, ns, mu, mo⟩ : SpD), yf)) hN
 simp only at hvn hdn hyrow
 have hsy := H.spok.at hg
 have HFI := hHd (sfind_any a.name (fun g => g < b) (fun g => g < b) _ (sd, sf) W H.spl hlb hlb H.few)
 have hfi : findI a.name sf = (i : Int) := by unfold findI; rw [hf]
 simp only [hfi] at HFI
 have hgl : g < W.heap.size := hlb g hgb
 have hcl' : ∀ (V : World), W.grownBy V (some h) → ∀ j u, ((cT nm kd ty lo hi ns mu mo B1 m1 A1 yf.len c1) : Array Value).toList[j]? = some u → V.cell? ⟨g, o + i * 9 + j, none⟩ = some u := fun V hV j u hu =>
  (World.cell?_of_block (w := W) (a := ⟨g, o + i * 9 + j, none⟩) (hV.block g hgl (fun e => by injection e with e; have := H.bw; omega))).trans (hcl j u (by simpa using hu))
 have HCL := hHd hcl'
 have hlen : cnt.length = sf.len := H.len
 have HLEN := hHd hlen
 have HH := hHd H
 have HSY := hHd hsy
 have HVN := hHd (And.intro hvn (And.intro hdn hN))
 have HLB := hHd hlb
 have HY := hHd hY
 have HF := hHd (And.intro hf hg)
 have HCNT : Hid (∃ x : Nat, x = cnt.getD i 0 ∧ x ≤ 1000000) := hHd ⟨_, rfl, H.cnt i⟩
 obtain ⟨x, hx, hx1⟩ := HCNT.out
 have HX := hHd hx
 obtain ⟨q0, q1, q2, q3, q4, q5, q6, q7, q8⟩ := cl9 H.b3
 have r0 := (H.b4.cell 0).trans rfl
 have hfew := H.few
 simp only at hfew
 have i0 : (0 : Int) ≤ (i : Int) := by omega
 have i1 : (i : Int) < (sf.len : Int) := by omega
 have i2 : (sf.len : Int) ≤ 1000000 := by omega
 clear H hf hfi hY hlb hg hil hN hcl hvn hdn hyrow hsy hcl' hrow0 hgb hx e2 hlen
 refine callsIn_of_wp Tryz.func105 rfl trivial ?_ rfl
 simp only [Tryz.ntmps105, List.size_toArray, List.length_cons, List.length_nil, Nat.reduceAdd, Nat.reduceSub, Array.replicate_succ, Array.replicate_zero, List.push_toArray, List.append_toArray, List.nil_append, List.cons_append]
 gi_wp2_with fail
 refine ⟨trivial, calls_wideR (ro := none) (HFI.out.mono ?_)⟩
 rintro r w1 ⟨rfl, hb1⟩
 clear q0 q1 q2 q3 q4 q5 q6 q7 q8 r0
 have HB1 := hHd hb1
 have HK1 := hHd (HH.out.below hb1)
 clear hb1
 have s8 := (HK1.out.b3.cell 8).trans rfl
 have c0' : w1.cell? ⟨g, o + i * 9, none⟩ = some (.string (txt nm)) := HCL.out w1 (grown_of_below HB1.out) 0 _ rfl
 have c1' := HCL.out w1 (grown_of_below HB1.out) 1 _ rfl
 have c2' := HCL.out w1 (grown_of_below HB1.out) 2 _ rfl
 have c3' := HCL.out w1 (grown_of_below HB1.out) 3 _ rfl
 have c4' := HCL.out w1 (grown_of_below HB1.out) 4 _ rfl
 have c5' := HCL.out w1 (grown_of_below HB1.out) 5 _ rfl
 have c6' := HCL.out w1 (grown_of_below HB1.out) 6 _ rfl
 have c7' := HCL.out w1 (grown_of_below HB1.out) 7 _ rfl
 have c8' := HCL.out w1 (grown_of_below HB1.out) 8 _ rfl
 have hal : Below w1.heap.size w1 (w1.alloc (.cells (cT nm kd ty lo hi ns mu mo B1 m1 A1 yf.len c1) 61)) := bAl
 have t5 := (HK1.out.b5.below hal HK1.out.b5.lt).cell 0 |>.trans rfl
 have thb : Blk (w1.alloc (.cells (cT nm kd ty lo hi ns mu mo B1 m1 A1 yf.len c1) 61)) h 3 (cntC cnt) := HK1.out.bh.below hal HK1.out.bh.lt
 have th : (w1.alloc (.cells (cT nm kd ty lo hi ns mu mo B1 m1 A1 yf.len c1) 61)).cell? ⟨h, i, none⟩ = some (.int .i64 (x : Int)) := by rw [thb.cell, HX.out]; exact cnt_at (by rw [HLEN.out]; omega)
 have tf : (w1.alloc (.cells (cT nm kd ty lo hi ns mu mo B1 m1 A1 yf.len c1) 61)).frozen? ⟨h, i, none⟩ = false := thb.frozen i
 have j1 : (x : Int) ≤ 1000000 := by omega
 have j0 : (0 : Int) ≤ (x : Int) := by omega
 have hg3 : W.grownBy ((w1.alloc (.cells (cT nm kd ty lo hi ns mu mo B1 m1 A1 yf.len c1) 61)).setCell ⟨h, i, none⟩ (.int .i64 ((x : Int) + 1))) (some h) := by
  have h1 : W.grownBy (w1.alloc (.cells (cT nm kd ty lo hi ns mu mo B1 m1 A1 yf.len c1) 61)) (some h) := grown_of_below (HB1.out.trans (hal.mono HB1.out.size))
  exact grown_trans h1 ((grown_setAny (w1.alloc (.cells (cT nm kd ty lo hi ns mu mo B1 m1 A1 yf.len c1) 61)) h i _ : (w1.alloc (.cells (cT nm kd ty lo hi ns mu mo B1 m1 A1 yf.len c1) 61)).grownBy _ (some h)))
 have hoth : ∀ {q t : Nat} {zs : Array Value}, h ≠ q → Blk (w1.alloc (.cells (cT nm kd ty lo hi ns mu mo B1 m1 A1 yf.len c1) 61)) q t zs → Blk ((w1.alloc (.cells (cT nm kd ty lo hi ns mu mo B1 m1 A1 yf.len c1) 61)).setCell ⟨h, i, none⟩ (.int .i64 ((x : Int) + 1))) q t zs := fun hne hb => hb.far (p := ⟨h, i, none⟩) (fun e => hne e.symm) _
 have hb6 : Blk ((w1.alloc (.cells (cT nm kd ty lo hi ns mu mo B1 m1 A1 yf.len c1) 61)).setCell ⟨h, i, none⟩ (.int .i64 ((x : Int) + 1))) w1.heap.size 61 (cT nm kd ty lo hi ns mu mo B1 m1 A1 yf.len c1) := hoth (by have := HK1.out.bh.lt; omega) (Blk.new w1 61 (cT nm kd ty lo hi ns mu mo B1 m1 A1 yf.len c1))
 have hb4 : Blk ((w1.alloc (.cells (cT nm kd ty lo hi ns mu mo B1 m1 A1 yf.len c1) 61)).setCell ⟨h, i, none⟩ (.int .i64 ((x : Int) + 1))) g4 27 (cN a (.slice A k.len c)) := hoth HK1.out.n4 (HK1.out.b4.below hal HK1.out.b4.lt)
 have hb5 : Blk ((w1.alloc (.cells (cT nm kd ty lo hi ns mu mo B1 m1 A1 yf.len c1) 61)).setCell ⟨h, i, none⟩ (.int .i64 ((x : Int) + 1))) g5 43 #[.slice (some ⟨h, 0, none⟩) sf.len sf.len] := hoth HK1.out.n5 (HK1.out.b5.below hal HK1.out.b5.lt)
 have hbh : Blk ((w1.alloc (.cells (cT nm kd ty lo hi ns mu mo B1 m1 A1 yf.len c1) 61)).setCell ⟨h, i, none⟩ (.int .i64 ((x : Int) + 1))) h 3 (cntC (bump cnt i)) := by
  have h1 := thb.set_ i (.int .i64 ((x : Int) + 1))
  rw [HX.out] at h1 ⊢
  rw [cnt_bump (by rw [HLEN.out]; omega)] at h1
  exact h1
 have hvn3 : Vals ((w1.alloc (.cells (cT nm kd ty lo hi ns mu mo B1 m1 A1 yf.len c1) 61)).setCell ⟨h, i, none⟩ (.int .i64 ((x : Int) + 1))) d1 (.slice B1 ns.length m1) (txts ns) := HVN.out.1.heap (fun h0 => hg3.block d1 (HLB.out d1 (HVN.out.2.1 (by rwa [txts_len] at h0))) (fun e => by injection e with e; have h1 := HH.out.bw; have h2 := HVN.out.2.1 (by rwa [txts_len] at h0); omega))
 have HWD := hHd (And.intro hg3 (And.intro hb6 (And.intro hb4 (And.intro hb5 hbh))))
 have HFT := hHd (vfits_any nm kd ty lo hi ns mu mo B1 m1 d1 A1 yf.len c1 a k A c ((w1.alloc (.cells (cT nm kd ty lo hi ns mu mo B1 m1 A1 yf.len c1) 61)).setCell ⟨h, i, none⟩ (.int .i64 ((x : Int) + 1))) hvn3 HSY.out.1 HH.out.okd (by have h1 := Fr.len_size k; have h2 := HH.out.size; omega))
 rw [hX] at HFT
 clear hX
 have HDY : Hid (SpL b ((w1.alloc (.cells (cT nm kd ty lo hi ns mu mo B1 m1 A1 yf.len c1) 61)).setCell ⟨h, i, none⟩ (.int .i64 ((x : Int) + 1))) (cT nm kd ty lo hi ns mu mo B1 m1 A1 yf.len c1).toList ((⟨nm, kd, ty, lo, hi, ns, mu, mo⟩ : SpD), yf)) := hHd (SpL.keep (b := b) (w := W) HVN.out.2.2 (fun q hq => hg3.block q (HLB.out q hq) (fun e => by injection e with e; have := HH.out.bw; omega)) (Nat.le_refl _))
 have HRK : Hid (RowT b ((w1.alloc (.cells (cT nm kd ty lo hi ns mu mo B1 m1 A1 yf.len c1) 61)).setCell ⟨h, i, none⟩ (.int .i64 ((x : Int) + 1))) (.slice A k.len c) k) := hHd (HH.out.row.keep (fun q hq => hg3.block q (HLB.out q hq) (fun e => by injection e with e; have := HH.out.bw; omega)) (Nat.le_refl _))
 obtain ⟨b6_0, b6_1, b6_2, b6_3, b6_4, b6_5, b6_6, b6_7, b6_8⟩ := cl9 hb6
 obtain ⟨n0, n1, n2, n3, n4, n5⟩ := cl6 hb4
 clear hg3 hoth hb6 hb4 hb5 hbh hvn3 hal thb
 gi_wp2_with fail
 refine ⟨trivial, calls_wideR (ro := none) (HFT.out.mono ?_)⟩
 rintro r w4 ⟨rfl, hb4⟩
 have k3 : ((kd : Int) == 3) = true := beq_iff_eq.2 (by have := HKD.out.1; omega)
 have k4 : (mo : Int) < (x : Int) + 1 := by have h1 := HKD.out.2; rw [← HX.out] at h1; omega
 have k5 : decide ((mo : Int) < (x : Int) + 1) = true := decide_eq_true k4
 clear b6_0 b6_1 b6_2 b6_3 b6_4 b6_5 b6_6 b6_7 b6_8 n0 n1 n2 n3 n4 n5 c0' c1' c2' c3' c4' c5' c6' c7' c8' s8 t5 th tf
 have hbd : Below ((w1.alloc (.cells (cT nm kd ty lo hi ns mu mo B1 m1 A1 yf.len c1) 61)).setCell ⟨h, i, none⟩ (.int .i64 ((x : Int) + 1))).heap.size ((w1.alloc (.cells (cT nm kd ty lo hi ns mu mo B1 m1 A1 yf.len c1) 61)).setCell ⟨h, i, none⟩ (.int .i64 ((x : Int) + 1))) w4.drew := hb4.drew
 have HWR : Hid (W.grownBy w4.drew (some h) ∧ Blk w4.drew w1.heap.size 61 (cT nm kd ty lo hi ns mu mo B1 m1 A1 yf.len c1) ∧ Blk w4.drew g4 27 (cN a (.slice A k.len c)) ∧ Blk w4.drew g5 43 #[.slice (some ⟨h, 0, none⟩) sf.len sf.len] ∧ Blk w4.drew h 3 (cntC (bump cnt i))) := hHd ⟨grown_trans HWD.out.1 (grown_of_below hbd), HWD.out.2.1.below hbd HWD.out.2.1.lt, HWD.out.2.2.1.below hbd HWD.out.2.2.1.lt, HWD.out.2.2.2.1.below hbd HWD.out.2.2.2.1.lt, HWD.out.2.2.2.2.below hbd HWD.out.2.2.2.2.lt⟩
 have HCI : Hid ((cntC (bump cnt i))[i]? = some (.int .i64 ((x : Int) + 1))) := hHd (by
  have h1 := cnt_at (c := bump cnt i) (i := i) (by rw [bump_len, HLEN.out]; omega)
  rw [bump_get i (by rw [HLEN.out]; omega), if_pos rfl, ← HX.out] at h1
  rw [h1]
  simp)
 clear hb4 hbd
 gi_wp2_with fail
 refine ⟨fun _ _ => trivial, ?_⟩
 gi_wp2_with fail
 refine wpIn_region_calm (ro := none) ?_
 refine wpIn_region_heldI [15] (S := fun _ => True) (by kernel_rfl) trivial (fun hS => ?_)
 refine tkI 0 [0, 1, 2, 3, 4, 5, 6, 7, 8, 9, 10, 11, 12, 13, 14, 15, 16, 17] hS ?_
 refine heldI_more (S' := fun w' => Blk w' w1.heap.size 61 (cT nm kd ty lo hi ns mu mo B1 m1 A1 yf.len c1) ∧ Blk w' g5 43 #[.slice (some ⟨h, 0, none⟩) sf.len sf.len] ∧ Blk w' h 3 (cntC (bump cnt i))) (fun _ _ => trivial) _ _ _ _ ?_
 replace hS := And.intro HWR.out.2.1 HWR.out.2.2.2
 refine tkI 1 [1, 2, 3, 4, 5, 6, 7, 8, 9, 10, 11, 12, 13, 14, 15, 16, 17] hS ?_ (hy := fun w hSw => by have y1 := (hSw.1.cell 1).trans rfl; (go_simp <;> with_reducible rfl))
 refine tkI 2 [2, 3, 4, 5, 6, 7, 8, 9, 10, 11, 12, 13, 14, 15, 16, 17] hS ?_
 refine tkI 3 [3, 4, 5, 6, 7, 8, 9, 10, 11, 12, 13, 14, 15, 16, 17] hS ?_
 refine tkI 4 [4, 6, 7, 10, 11, 12, 13, 14, 15, 16, 17] hS ?_ (hy := fun w hSw => by have y1 := (hSw.2.1.cell 0).trans rfl; (go_simp <;> with_reducible rfl))
 refine tkI 5 [5, 6, 7, 10, 11, 12, 13, 14, 15, 16, 17] hS ?_
 refine tkI 6 [6, 7, 10, 11, 12, 13, 14, 15, 16, 17] hS ?_
 refine tkI 7 [7, 10, 11, 12, 13, 14, 15, 16, 17] hS ?_ (hy := fun w hSw => by have y1 := (hSw.2.2.cell i).trans HCI.out; (go_simp <;> with_reducible rfl))
 refine tkI 8 [8, 9, 10, 11, 12, 13, 14, 15, 16, 17] hS ?_
 refine tkI 9 [9, 10, 11, 12, 13, 14, 15, 16, 17] hS ?_ (hy := fun w hSw => by have y1 := (hSw.1.cell 7).trans rfl; (go_simp <;> with_reducible rfl))
 refine tkI 10 [10, 11, 12, 13, 14, 15, 16, 17] hS ?_
 refine tkI 11 [11, 12, 13, 14, 15, 16, 17] hS ?_
 refine tkI 12 [12, 13, 14, 15, 16, 17] hS ?_
 refine tkI 13 [13, 15, 16, 17] hS ?_
 refine tkI 14 [14, 15, 16, 17] hS ?_
 refine rdyI [15] (riD (fun K hK => ?_) .nil)
 have HYC := hHd (HY.out #[.agg #[.int .i64 27, .slice none 0 0]] w4.drew HWR.out.1 (stop_enc 27 _ _))
 refine opIn_yield (by kernel_rfl) (fun fn tmps assign body h => by simp [execOp, resolve, invoke, go_sem, h]) HYC.out (fun e w7 he => ?_)
 obtain ⟨rfl, hj7, hk7⟩ := stop_bool he
 have HJ7 := hHd hj7
 clear he hj7 hk7
 refine ⟨_, rfl, ?_⟩
 refine hK.out _ _ ?_
 have hS : True := trivial
 clear hK K
 (try simp only [Act.put, layS])
 refine tkI 16 [16, 17] hS ?_
 refine tkI 17 [17] hS ?_
 refine heldI_done (by kernel_rfl) ?_ _
 refine NoPanic.normal ?_
 clear hS
 gi_wp2
 refine bodyPost_ret (results_none rfl _ _ _) rfl ?_
 exact ⟨⟨_, rfl⟩, HJ7.out⟩
theorem inside_any (cs : List Value) (u : Value) (s : SpD) (nv kv : Value) (y : NdD) (w : World) :
  Calls Tryz.prog 52 #[.agg (spC s nv kv).toArray, .agg (cN y u)] w fun r w' => r = .returned (.func (.func 83) #[] #[.pointer (some ⟨w.heap.size, 0, none⟩), .pointer (some ⟨w.heap.size + 1, 0, none⟩)]) ∧
   w' = (w.alloc (.cells (spC s nv kv).toArray 61)).alloc (.cells (cN y u) 27) := by
 unfold spC
 go_enter Tryz.func52, Tryz.ntmps52
 go_wp2
 go_ret
 exact ⟨rfl, rfl⟩
theorem kidp_list (sd : SpD) (sf : SpF) (cs : List Value) (a : NdD) (k : NdF) (A : Option Addr) (c b g3 g4 g5 h : Nat) (cnt : List Nat) (l : Nat) (Jx : World → Prop) (W : World) (H : KidH (sd, sf) cs a k A c b g3 g4 g5 h cnt W) (i : Nat) (nm : List UInt8) (kd ty lo hi : Nat) (ns : List (List UInt8)) (mu : Bool) (mo : Nat) (yf : SpF) (hf : findX a.name sf = some i) (hg : sf.get? i = some ((⟨nm, kd, ty, lo, hi, ns, mu, mo⟩ : SpD), yf)) (hX : fitX10 (⟨nm, kd, ty, lo, hi, ns, mu, mo⟩ : SpD) a k = true) (hkd : kd = 3) (hmo : ¬ mo ≤ cnt.getD i 0) (hk : InsideP k) (hJx : OwnFrom W.heap.size (fun (_ : Unit) V => Jx V)) (hY : YldH h (insideX yf k) l Jx W) :
  CallsIn Fence.wide 9 Tryz.prog 105 #[.func (.yield l) #[] #[], .pointer (some ⟨g3, 0, none⟩), .pointer (some ⟨g4, 0, none⟩), .pointer (some ⟨g5, 0, none⟩)] W (KidQ h (bump cnt i) (insideX yf k) Jx W) := by
 have HKD := hHd (And.intro hkd hmo)
 have HIP := hHd (And.intro hk hJx)
 clear hkd hmo hk hJx
 obtain ⟨B0, m0, A0, c0, d0, rfl, -, -, hrow0⟩ := SpN.shape (x := (sd, sf)) H.spl
 have hlb : ∀ g, g < b → g < W.heap.size := fun g hg => by have h1 := H.bw; have h2 := H.bh.lt; omega
 have hil : i < sf.len := Fr.get_lt hg
 obtain ⟨g, o, c', cs', e, -, hgb, hN, hcl⟩ := hrow0.at hg
 injection e with e1 e2 e3
 subst e1 e3
 obtain ⟨B1, m1, A1, c1, d1, rfl, hvn, hdn, hyrow⟩ := SpN.shape (x := ((⟨nm, kd, ty, lo, hi, ns, mu, mo⟩ : SpD), yf)) hN
 simp only at hvn hdn hyrow
 have hsy := H.spok.at hg
 have HFI := hHd (sfind_any a.name (fun g => g < b) (fun g => g < b) _ (sd, sf) W H.spl hlb hlb H.few)
 have hfi : findI a.name sf = (i : Int) := by unfold findI; rw [hf]
 simp only [hfi] at HFI
 have hgl : g < W.heap.size := hlb g hgb
 have hcl' : ∀ (V : World), W.grownBy V (some h) → ∀ j u, ((cT nm kd ty lo hi ns mu mo B1 m1 A1 yf.len c1) : Array Value).toList[j]? = some u → V.cell? ⟨g, o + i * 9 + j, none⟩ = some u := fun V hV j u hu =>
  (World.cell?_of_block (w := W) (a := ⟨g, o + i * 9 + j, none⟩) (hV.block g hgl (fun e => by injection e with e; have := H.bw; omega))).trans (hcl j u (by simpa using hu))
 have HCL := hHd hcl'
 have hlen : cnt.length = sf.len := H.len
 have HLEN := hHd hlen
 have HH := hHd H
 have HSY := hHd hsy
 have HVN := hHd (And.intro hvn (And.intro hdn hN))
 have HLB := hHd hlb
 have HY := hHd hY
 have HF := hHd (And.intro hf hg)
 have HCNT : Hid (∃ x : Nat, x = cnt.getD i 0 ∧ x ≤ 1000000) := hHd ⟨_, rfl, H.cnt i⟩
 obtain ⟨x, hx, hx1⟩ := HCNT.out
 have HX := hHd hx
 obtain ⟨q0, q1, q2, q3, q4, q5, q6, q7, q8⟩ := cl9 H.b3
 have r0 := (H.b4.cell 0).trans rfl
 have hfew := H.few
 simp only at hfew
 have i0 : (0 : Int) ≤ (i : Int) := by omega
 have i1 : (i : Int) < (sf.len : Int) := by omega
 have i2 : (sf.len : Int) ≤ 1000000 := by omega
 clear H hf hfi hY hlb hg hil hN hcl hvn hdn hyrow hsy hcl' hrow0 hgb hx e2 hlen
 refine callsIn_of_wp Tryz.func105 rfl trivial ?_ rfl
 simp only [Tryz.ntmps105, List.size_toArray, List.length_cons, List.length_nil, Nat.reduceAdd, Nat.reduceSub, Array.replicate_succ, Array.replicate_zero, List.push_toArray, List.append_toArray, List.nil_append, List.cons_append]
 gi_wp2_with fail
 refine ⟨trivial, calls_wideR (ro := none) (HFI.out.mono ?_)⟩
 rintro r w1 ⟨rfl, hb1⟩
 clear q0 q1 q2 q3 q4 q5 q6 q7 q8 r0
 have HB1 := hHd hb1
 have HK1 := hHd (HH.out.below hb1)
 clear hb1
 have s8 := (HK1.out.b3.cell 8).trans rfl
 have c0' : w1.cell? ⟨g, o + i * 9, none⟩ = some (.string (txt nm)) := HCL.out w1 (grown_of_below HB1.out) 0 _ rfl
 have c1' := HCL.out w1 (grown_of_below HB1.out) 1 _ rfl
 have c2' := HCL.out w1 (grown_of_below HB1.out) 2 _ rfl
 have c3' := HCL.out w1 (grown_of_below HB1.out) 3 _ rfl
 have c4' := HCL.out w1 (grown_of_below HB1.out) 4 _ rfl
 have c5' := HCL.out w1 (grown_of_below HB1.out) 5 _ rfl
 have c6' := HCL.out w1 (grown_of_below HB1.out) 6 _ rfl
 have c7' := HCL.out w1 (grown_of_below HB1.out) 7 _ rfl
 have c8' := HCL.out w1 (grown_of_below HB1.out) 8 _ rfl
 have hal : Below w1.heap.size w1 (w1.alloc (.cells (cT nm kd ty lo hi ns mu mo B1 m1 A1 yf.len c1) 61)) := bAl
 have t5 := (HK1.out.b5.below hal HK1.out.b5.lt).cell 0 |>.trans rfl
 have thb : Blk (w1.alloc (.cells (cT nm kd ty lo hi ns mu mo B1 m1 A1 yf.len c1) 61)) h 3 (cntC cnt) := HK1.out.bh.below hal HK1.out.bh.lt
 have th : (w1.alloc (.cells (cT nm kd ty lo hi ns mu mo B1 m1 A1 yf.len c1) 61)).cell? ⟨h, i, none⟩ = some (.int .i64 (x : Int)) := by rw [thb.cell, HX.out]; exact cnt_at (by rw [HLEN.out]; omega)
 have tf : (w1.alloc (.cells (cT nm kd ty lo hi ns mu mo B1 m1 A1 yf.len c1) 61)).frozen? ⟨h, i, none⟩ = false := thb.frozen i
 have j1 : (x : Int) ≤ 1000000 := by omega
 have j0 : (0 : Int) ≤ (x : Int) := by omega
 have hg3 : W.grownBy ((w1.alloc (.cells (cT nm kd ty lo hi ns mu mo B1 m1 A1 yf.len c1) 61)).setCell ⟨h, i, none⟩ (.int .i64 ((x : Int) + 1))) (some h) := by
  have h1 : W.grownBy (w1.alloc (.cells (cT nm kd ty lo hi ns mu mo B1 m1 A1 yf.len c1) 61)) (some h) := grown_of_below (HB1.out.trans (hal.mono HB1.out.size))
  exact grown_trans h1 ((grown_setAny (w1.alloc (.cells (cT nm kd ty lo hi ns mu mo B1 m1 A1 yf.len c1) 61)) h i _ : (w1.alloc (.cells (cT nm kd ty lo hi ns mu mo B1 m1 A1 yf.len c1) 61)).grownBy _ (some h)))
 have hoth : ∀ {q t : Nat} {zs : Array Value}, h ≠ q → Blk (w1.alloc (.cells (cT nm kd ty lo hi ns mu mo B1 m1 A1 yf.len c1) 61)) q t zs → Blk ((w1.alloc (.cells (cT nm kd ty lo hi ns mu mo B1 m1 A1 yf.len c1) 61)).setCell ⟨h, i, none⟩ (.int .i64 ((x : Int) + 1))) q t zs := fun hne hb => hb.far (p := ⟨h, i, none⟩) (fun e => hne e.symm) _
 have hb6 : Blk ((w1.alloc (.cells (cT nm kd ty lo hi ns mu mo B1 m1 A1 yf.len c1) 61)).setCell ⟨h, i, none⟩ (.int .i64 ((x : Int) + 1))) w1.heap.size 61 (cT nm kd ty lo hi ns mu mo B1 m1 A1 yf.len c1) := hoth (by have := HK1.out.bh.lt; omega) (Blk.new w1 61 (cT nm kd ty lo hi ns mu mo B1 m1 A1 yf.len c1))
 have hb4 : Blk ((w1.alloc (.cells (cT nm kd ty lo hi ns mu mo B1 m1 A1 yf.len c1) 61)).setCell ⟨h, i, none⟩ (.int .i64 ((x : Int) + 1))) g4 27 (cN a (.slice A k.len c)) := hoth HK1.out.n4 (HK1.out.b4.below hal HK1.out.b4.lt)
 have hb5 : Blk ((w1.alloc (.cells (cT nm kd ty lo hi ns mu mo B1 m1 A1 yf.len c1) 61)).setCell ⟨h, i, none⟩ (.int .i64 ((x : Int) + 1))) g5 43 #[.slice (some ⟨h, 0, none⟩) sf.len sf.len] := hoth HK1.out.n5 (HK1.out.b5.below hal HK1.out.b5.lt)
 have hbh : Blk ((w1.alloc (.cells (cT nm kd ty lo hi ns mu mo B1 m1 A1 yf.len c1) 61)).setCell ⟨h, i, none⟩ (.int .i64 ((x : Int) + 1))) h 3 (cntC (bump cnt i)) := by
  have h1 := thb.set_ i (.int .i64 ((x : Int) + 1))
  rw [HX.out] at h1 ⊢
  rw [cnt_bump (by rw [HLEN.out]; omega)] at h1
  exact h1
 have hvn3 : Vals ((w1.alloc (.cells (cT nm kd ty lo hi ns mu mo B1 m1 A1 yf.len c1) 61)).setCell ⟨h, i, none⟩ (.int .i64 ((x : Int) + 1))) d1 (.slice B1 ns.length m1) (txts ns) := HVN.out.1.heap (fun h0 => hg3.block d1 (HLB.out d1 (HVN.out.2.1 (by rwa [txts_len] at h0))) (fun e => by injection e with e; have h1 := HH.out.bw; have h2 := HVN.out.2.1 (by rwa [txts_len] at h0); omega))
 have HWD := hHd (And.intro hg3 (And.intro hb6 (And.intro hb4 (And.intro hb5 hbh))))
 have HFT := hHd (vfits_any nm kd ty lo hi ns mu mo B1 m1 d1 A1 yf.len c1 a k A c ((w1.alloc (.cells (cT nm kd ty lo hi ns mu mo B1 m1 A1 yf.len c1) 61)).setCell ⟨h, i, none⟩ (.int .i64 ((x : Int) + 1))) hvn3 HSY.out.1 HH.out.okd (by have h1 := Fr.len_size k; have h2 := HH.out.size; omega))
 rw [hX] at HFT
 clear hX
 have HDY : Hid (SpL b ((w1.alloc (.cells (cT nm kd ty lo hi ns mu mo B1 m1 A1 yf.len c1) 61)).setCell ⟨h, i, none⟩ (.int .i64 ((x : Int) + 1))) (cT nm kd ty lo hi ns mu mo B1 m1 A1 yf.len c1).toList ((⟨nm, kd, ty, lo, hi, ns, mu, mo⟩ : SpD), yf)) := hHd (SpL.keep (b := b) (w := W) HVN.out.2.2 (fun q hq => hg3.block q (HLB.out q hq) (fun e => by injection e with e; have := HH.out.bw; omega)) (Nat.le_refl _))
 have HRK : Hid (RowT b ((w1.alloc (.cells (cT nm kd ty lo hi ns mu mo B1 m1 A1 yf.len c1) 61)).setCell ⟨h, i, none⟩ (.int .i64 ((x : Int) + 1))) (.slice A k.len c) k) := hHd (HH.out.row.keep (fun q hq => hg3.block q (HLB.out q hq) (fun e => by injection e with e; have := HH.out.bw; omega)) (Nat.le_refl _))
 obtain ⟨b6_0, b6_1, b6_2, b6_3, b6_4, b6_5, b6_6, b6_7, b6_8⟩ := cl9 hb6
 obtain ⟨n0, n1, n2, n3, n4, n5⟩ := cl6 hb4
 clear hg3 hoth hb6 hb4 hb5 hbh hvn3 hal thb
 gi_wp2_with fail
 refine ⟨trivial, calls_wideR (ro := none) (HFT.out.mono ?_)⟩
 rintro r w4 ⟨rfl, hb4⟩
 have k3 : ((kd : Int) == 3) = true := beq_iff_eq.2 (by have := HKD.out.1; omega)
 have k1 : ((kd : Int) == 1) = false := beq_eq_false_iff_ne.2 (by have := HKD.out.1; omega)
 have k1' : ((kd : Int) != 1) = true := by unfold bne; rw [k1]; rfl
 have k4 : ¬ (mo : Int) < (x : Int) + 1 := by have h1 := HKD.out.2; rw [← HX.out] at h1; omega
 have k5 : decide ((mo : Int) < (x : Int) + 1) = false := decide_eq_false k4
 clear b6_0 b6_1 b6_2 b6_3 b6_4 b6_5 b6_6 b6_7 b6_8 n0 n1 n2 n3 n4 n5 c0' c1' c2' c3' c4' c5' c6' c7' c8' s8 t5 th tf
 have hbd : Below ((w1.alloc (.cells (cT nm kd ty lo hi ns mu mo B1 m1 A1 yf.len c1) 61)).setCell ⟨h, i, none⟩ (.int .i64 ((x : Int) + 1))).heap.size ((w1.alloc (.cells (cT nm kd ty lo hi ns mu mo B1 m1 A1 yf.len c1) 61)).setCell ⟨h, i, none⟩ (.int .i64 ((x : Int) + 1))) w4.drew := hb4.drew
 have HWR : Hid (W.grownBy w4.drew (some h) ∧ Blk w4.drew w1.heap.size 61 (cT nm kd ty lo hi ns mu mo B1 m1 A1 yf.len c1) ∧ Blk w4.drew g4 27 (cN a (.slice A k.len c)) ∧ Blk w4.drew g5 43 #[.slice (some ⟨h, 0, none⟩) sf.len sf.len] ∧ Blk w4.drew h 3 (cntC (bump cnt i))) := hHd ⟨grown_trans HWD.out.1 (grown_of_below hbd), HWD.out.2.1.below hbd HWD.out.2.1.lt, HWD.out.2.2.1.below hbd HWD.out.2.2.1.lt, HWD.out.2.2.2.1.below hbd HWD.out.2.2.2.1.lt, HWD.out.2.2.2.2.below hbd HWD.out.2.2.2.2.lt⟩
 have HCI : Hid ((cntC (bump cnt i))[i]? = some (.int .i64 ((x : Int) + 1))) := hHd (by
  have h1 := cnt_at (c := bump cnt i) (i := i) (by rw [bump_len, HLEN.out]; omega)
  rw [bump_get i (by rw [HLEN.out]; omega), if_pos rfl, ← HX.out] at h1
  rw [h1]
  simp)
 clear hb4 hbd
 gi_wp2_with fail
 refine ⟨fun _ _ => trivial, ?_⟩
 gi_wp2_with fail
 refine wpIn_region_calm (ro := none) ?_
 refine wpIn_region_heldI [] (S := fun _ => True) (by kernel_rfl) trivial (fun hS => ?_)
 refine tkI 0 [0, 1, 2, 3, 4, 5, 6, 7, 8, 9, 10, 11, 12, 13, 14, 15, 16, 17] hS ?_
 refine heldI_more (S' := fun w' => Blk w' w1.heap.size 61 (cT nm kd ty lo hi ns mu mo B1 m1 A1 yf.len c1) ∧ Blk w' g5 43 #[.slice (some ⟨h, 0, none⟩) sf.len sf.len] ∧ Blk w' h 3 (cntC (bump cnt i))) (fun _ _ => trivial) _ _ _ _ ?_
 replace hS := And.intro HWR.out.2.1 HWR.out.2.2.2
 refine tkI 1 [1, 2, 3, 4, 5, 6, 7, 8, 9, 10, 11, 12, 13, 14, 15, 16, 17] hS ?_ (hy := fun w hSw => by have y1 := (hSw.1.cell 1).trans rfl; (go_simp <;> with_reducible rfl))
 refine tkI 2 [2, 3, 4, 5, 6, 7, 8, 9, 10, 11, 12, 13, 14, 15, 16, 17] hS ?_
 refine tkI 3 [3, 4, 5, 6, 7, 8, 9, 10, 11, 12, 13, 14, 15, 16, 17] hS ?_
 refine tkI 4 [4, 6, 7, 10, 11, 12, 13, 14, 15, 16, 17] hS ?_ (hy := fun w hSw => by have y1 := (hSw.2.1.cell 0).trans rfl; (go_simp <;> with_reducible rfl))
 refine tkI 5 [5, 6, 7, 10, 11, 12, 13, 14, 15, 16, 17] hS ?_
 refine tkI 6 [6, 7, 10, 11, 12, 13, 14, 15, 16, 17] hS ?_
 refine tkI 7 [7, 10, 11, 12, 13, 14, 15, 16, 17] hS ?_ (hy := fun w hSw => by have y1 := (hSw.2.2.cell i).trans HCI.out; (go_simp <;> with_reducible rfl))
 refine tkI 8 [8, 9, 10, 11, 12, 13, 14, 15, 16, 17] hS ?_
 refine tkI 9 [9, 10, 11, 12, 13, 14, 15, 16, 17] hS ?_ (hy := fun w hSw => by have y1 := (hSw.1.cell 7).trans rfl; (go_simp <;> with_reducible rfl))
 refine tkI 10 [10, 11, 12, 13, 14, 15, 16, 17] hS ?_
 refine tkI 11 [11, 12, 13, 14, 15, 16, 17] hS ?_
 refine tkI 12 [12, 13, 14, 15, 16, 17] hS ?_
 refine tkIo 13 [13, 15, 16, 17] hS ?_
 refine tkIo 14 [14, 15, 16, 17] hS ?_
 refine tkIo 15 [15, 16, 17] hS ?_
 refine tkIo 16 [16, 17] hS ?_
 refine tkI 17 [17] hS ?_
 refine heldI_done (by kernel_rfl) ?_ _
 refine NoPanic.normal ?_
 clear hS
 obtain ⟨z0, z1, z2, z3, z4, z5, z6, z7, z8⟩ := cl9 HWR.out.2.1
 obtain ⟨n0, n1, n2, n3, n4, n5⟩ := cl6 HWR.out.2.2.1
 gi_wp2_with fail
 refine ⟨trivial, calls_wideR (ro := none) ((inside_any [] (.slice A k.len c) (⟨nm, kd, ty, lo, hi, ns, mu, mo⟩ : SpD) (.slice B1 ns.length m1) (.slice A1 yf.len c1) a _).mono ?_)⟩
 rintro r w' ⟨rfl, rfl⟩
 clear z0 z1 z2 z3 z4 z5 z6 z7 z8 n0 n1 n2 n3 n4 n5
 gi_wp2_with fail
 have hb6 : Below w4.heap.size w4 (((w4.alloc (.cells (cT nm kd ty lo hi ns mu mo B1 m1 A1 yf.len c1) 61)).alloc (.cells (cN a (.slice A k.len c)) 27)).drew) := (bAl.alloc (by simp) _).drew
 have hg6 : W.grownBy (((w4.alloc (.cells (cT nm kd ty lo hi ns mu mo B1 m1 A1 yf.len c1) 61)).alloc (.cells (cN a (.slice A k.len c)) 27)).drew) (some h) := grown_trans HWR.out.1 ⟨hb6.os, hb6.tape, hb6.output, hb6.size, fun q hq _ => hb6.block q hq⟩
 have hk6 : ∀ q, q < b → ((((w4.alloc (.cells (cT nm kd ty lo hi ns mu mo B1 m1 A1 yf.len c1) 61)).alloc (.cells (cN a (.slice A k.len c)) 27)).drew)).heap[q]? = W.heap[q]? := fun q hq => hg6.block q (HLB.out q hq) (fun e => by injection e with e; have := HH.out.bw; omega)
 have hlw : b ≤ W.heap.size := Nat.le_trans HH.out.bw (Nat.le_of_lt HH.out.bh.lt)
 have hA : Blk (((w4.alloc (.cells (cT nm kd ty lo hi ns mu mo B1 m1 A1 yf.len c1) 61)).alloc (.cells (cN a (.slice A k.len c)) 27)).drew) w4.heap.size 61 (cT nm kd ty lo hi ns mu mo B1 m1 A1 yf.len c1) := (Blk.new w4 61 (cT nm kd ty lo hi ns mu mo B1 m1 A1 yf.len c1)).alloc _
 have hB : Blk (((w4.alloc (.cells (cT nm kd ty lo hi ns mu mo B1 m1 A1 yf.len c1) 61)).alloc (.cells (cN a (.slice A k.len c)) 27)).drew) (w4.heap.size + 1) 27 (cN a (.slice A k.len c)) := Blk.newA (w := w4.alloc (.cells (cT nm kd ty lo hi ns mu mo B1 m1 A1 yf.len c1) 61)) (by simp) _ _
 have hins := HIP.out.1 ((⟨nm, kd, ty, lo, hi, ns, mu, mo⟩ : SpD), yf) ((cT nm kd ty lo hi ns mu mo B1 m1 A1 yf.len c1)).toList a A c b w4.heap.size (w4.heap.size + 1) (((w4.alloc (.cells (cT nm kd ty lo hi ns mu mo B1 m1 A1 yf.len c1) 61)).alloc (.cells (cN a (.slice A k.len c)) 27)).drew) (SpL.keep (b := b) (w := W) HVN.out.2.2 hk6 (Nat.le_refl _)) HSY.out.2.2 HSY.out.2.1 (HH.out.row.keep hk6 (Nat.le_refl _)) hA hB (Nat.le_trans hlw hg6.size) HH.out.size HH.out.okf
 have hyl : ∀ args W1, Below ((((w4.alloc (.cells (cT nm kd ty lo hi ns mu mo B1 m1 A1 yf.len c1) 61)).alloc (.cells (cN a (.slice A k.len c)) 27)).drew)).heap.size (((w4.alloc (.cells (cT nm kd ty lo hi ns mu mo B1 m1 A1 yf.len c1) 61)).alloc (.cells (cN a (.slice A k.len c)) 27)).drew) W1 → EncO (insideX yf k) ((((w4.alloc (.cells (cT nm kd ty lo hi ns mu mo B1 m1 A1 yf.len c1) 61)).alloc (.cells (cN a (.slice A k.len c)) 27)).drew)).heap.size args W1 → ∀ m, YieldAt Fence.wide m Tryz.prog l args W1 (StopY ((((w4.alloc (.cells (cT nm kd ty lo hi ns mu mo B1 m1 A1 yf.len c1) 61)).alloc (.cells (cN a (.slice A k.len c)) 27)).drew)).heap.size Jx W1) := fun args W1 hb he m =>
  (HY.out args W1 (grown_trans hg6 (grown_of_below hb)) (he.mono hg6.size) m).mono fun e w' ⟨g1, g2, g3⟩ => ⟨g1, g2, keepsFrom_mono g3 hg6.size⟩
 have HG6 := hHd (And.intro hg6 (hb6.block h (by have h1 := HWR.out.2.2.2.2.lt; exact h1)))
 refine ⟨trivial, (callsIn_wide (n := 8)).2 ((hins l Jx (((w4.alloc (.cells (cT nm kd ty lo hi ns mu mo B1 m1 A1 yf.len c1) 61)).alloc (.cells (cN a (.slice A k.len c)) 27)).drew) (Below.refl _ _) (OwnFrom.le HIP.out.2 hg6.size) hyl).mono ?_)⟩
 rintro e W7 ⟨⟨v7, rfl⟩, hp7⟩
 have HEND : Hid (KidQ h (bump cnt i) (insideX yf k) Jx W (.returned (.tuple #[])) W7) := hHd (by
  refine ⟨⟨_, rfl⟩, ?_⟩
  cases ho : (insideX yf k).isSome with
  | true => rw [ho, if_pos rfl] at hp7; rw [if_pos rfl]; exact hp7
  | false =>
   rw [ho, if_neg (by simp)] at hp7
   rw [if_neg (by simp)]
   exact ⟨grown_trans HG6.out.1 (grown_of_below hp7), (hp7.block h (by have h1 := HWR.out.2.2.2.2.lt; have h2 := hb6.size; exact Nat.lt_of_lt_of_le h1 h2)).trans (HG6.out.2.trans HWR.out.2.2.2.2)⟩)
 clear hb6 hg6 hk6 hlw hA hB hins hyl hp7
 gi_wp2
 go_end0
 exact HEND.out
theorem kidp_box (sd : SpD) (sf : SpF) (cs : List Value) (a : NdD) (k : NdF) (A : Option Addr) (c b g3 g4 g5 h : Nat) (cnt : List Nat) (l : Nat) (Jx : World → Prop) (W : World) (H : KidH (sd, sf) cs a k A c b g3 g4 g5 h cnt W) (i : Nat) (nm : List UInt8) (kd ty lo hi : Nat) (ns : List (List UInt8)) (mu : Bool) (mo : Nat) (yf : SpF) (hf : findX a.name sf = some i) (hg : sf.get? i = some ((⟨nm, kd, ty, lo, hi, ns, mu, mo⟩ : SpD), yf)) (hX : fitX10 (⟨nm, kd, ty, lo, hi, ns, mu, mo⟩ : SpD) a k = true) (hkd : kd ≠ 1) (hkd3 : kd ≠ 3) (hk : InsideP k) (hJx : OwnFrom W.heap.size (fun (_ : Unit) V => Jx V)) (hY : YldH h (insideX yf k) l Jx W) :
  CallsIn Fence.wide 9 Tryz.prog 105 #[.func (.yield l) #[] #[], .pointer (some ⟨g3, 0, none⟩), .pointer (some ⟨g4, 0, none⟩), .pointer (some ⟨g5, 0, none⟩)] W (KidQ h (bump cnt i) (insideX yf k) Jx W) := by
 have HKD := hHd (And.intro hkd hkd3)
 have HIP := hHd (And.intro hk hJx)
 clear hkd hkd3 hk hJx
 obtain ⟨B0, m0, A0, c0, d0, rfl, -, -, hrow0⟩ := SpN.shape (x := (sd, sf)) H.spl
 have hlb : ∀ g, g < b → g < W.heap.size := fun g hg => by have h1 := H.bw; have h2 := H.bh.lt; omega
 have hil : i < sf.len := Fr.get_lt hg
 obtain ⟨g, o, c', cs', e, -, hgb, hN, hcl⟩ := hrow0.at hg
 injection e with e1 e2 e3
 subst e1 e3
 obtain ⟨B1, m1, A1, c1, d1, rfl, hvn, hdn, hyrow⟩ := SpN.shape (x := ((⟨nm, kd, ty, lo, hi, ns, mu, mo⟩ : SpD), yf)) hN
 simp only at hvn hdn hyrow
 have hsy := H.spok.at hg
 have HFI := hHd (sfind_any a.name (fun g => g < b) (fun g => g < b) _ (sd, sf) W H.spl hlb hlb H.few)
 have hfi : findI a.name sf = (i : Int) := by unfold findI; rw [hf]
 simp only [hfi] at HFI
 have hgl : g < W.heap.size := hlb g hgb
 have hcl' : ∀ (V : World), W.grownBy V (some h) → ∀ j u, ((cT nm kd ty lo hi ns mu mo B1 m1 A1 yf.len c1) : Array Value).toList[j]? = some u → V.cell? ⟨g, o + i * 9 + j, none⟩ = some u := fun V hV j u hu =>
  (World.cell?_of_block (w := W) (a := ⟨g, o + i * 9 + j, none⟩) (hV.block g hgl (fun e => by injection e with e; have := H.bw; omega))).trans (hcl j u (by simpa using hu))
 have HCL := hHd hcl'
 have hlen : cnt.length = sf.len := H.len
 have HLEN := hHd hlen
 have HH := hHd H
 have HSY := hHd hsy
 have HVN := hHd (And.intro hvn (And.intro hdn hN))
 have HLB := hHd hlb
 have HY := hHd hY
 have HF := hHd (And.intro hf hg)
 have HCNT : Hid (∃ x : Nat, x = cnt.getD i 0 ∧ x ≤ 1000000) := hHd ⟨_, rfl, H.cnt i⟩
 obtain ⟨x, hx, hx1⟩ := HCNT.out
 have HX := hHd hx
 obtain ⟨q0, q1, q2, q3, q4, q5, q6, q7, q8⟩ := cl9 H.b3
 have r0 := (H.b4.cell 0).trans rfl
 have hfew := H.few
 simp only at hfew
 have i0 : (0 : Int) ≤ (i : Int) := by omega
 have i1 : (i : Int) < (sf.len : Int) := by omega
 have i2 : (sf.len : Int) ≤ 1000000 := by omega
 clear H hf hfi hY hlb hg hil hN hcl hvn hdn hyrow hsy hcl' hrow0 hgb hx e2 hlen
 refine callsIn_of_wp Tryz.func105 rfl trivial ?_ rfl
 simp only [Tryz.ntmps105, List.size_toArray, List.length_cons, List.length_nil, Nat.reduceAdd, Nat.reduceSub, Array.replicate_succ, Array.replicate_zero, List.push_toArray, List.append_toArray, List.nil_append, List.cons_append]
 gi_wp2_with fail
 refine ⟨trivial, calls_wideR (ro := none) (HFI.out.mono ?_)⟩
 rintro r w1 ⟨rfl, hb1⟩
 clear q0 q1 q2 q3 q4 q5 q6 q7 q8 r0
 have HB1 := hHd hb1
 have HK1 := hHd (HH.out.below hb1)
 clear hb1
 have s8 := (HK1.out.b3.cell 8).trans rfl
 have c0' : w1.cell? ⟨g, o + i * 9, none⟩ = some (.string (txt nm)) := HCL.out w1 (grown_of_below HB1.out) 0 _ rfl
 have c1' := HCL.out w1 (grown_of_below HB1.out) 1 _ rfl
 have c2' := HCL.out w1 (grown_of_below HB1.out) 2 _ rfl
 have c3' := HCL.out w1 (grown_of_below HB1.out) 3 _ rfl
 have c4' := HCL.out w1 (grown_of_below HB1.out) 4 _ rfl
 have c5' := HCL.out w1 (grown_of_below HB1.out) 5 _ rfl
 have c6' := HCL.out w1 (grown_of_below HB1.out) 6 _ rfl
 have c7' := HCL.out w1 (grown_of_below HB1.out) 7 _ rfl
 have c8' := HCL.out w1 (grown_of_below HB1.out) 8 _ rfl
 have hal : Below w1.heap.size w1 (w1.alloc (.cells (cT nm kd ty lo hi ns mu mo B1 m1 A1 yf.len c1) 61)) := bAl
 have t5 := (HK1.out.b5.below hal HK1.out.b5.lt).cell 0 |>.trans rfl
 have thb : Blk (w1.alloc (.cells (cT nm kd ty lo hi ns mu mo B1 m1 A1 yf.len c1) 61)) h 3 (cntC cnt) := HK1.out.bh.below hal HK1.out.bh.lt
 have th : (w1.alloc (.cells (cT nm kd ty lo hi ns mu mo B1 m1 A1 yf.len c1) 61)).cell? ⟨h, i, none⟩ = some (.int .i64 (x : Int)) := by rw [thb.cell, HX.out]; exact cnt_at (by rw [HLEN.out]; omega)
 have tf : (w1.alloc (.cells (cT nm kd ty lo hi ns mu mo B1 m1 A1 yf.len c1) 61)).frozen? ⟨h, i, none⟩ = false := thb.frozen i
 have j1 : (x : Int) ≤ 1000000 := by omega
 have j0 : (0 : Int) ≤ (x : Int) := by omega
 have hg3 : W.grownBy ((w1.alloc (.cells (cT nm kd ty lo hi ns mu mo B1 m1 A1 yf.len c1) 61)).setCell ⟨h, i, none⟩ (.int .i64 ((x : Int) + 1))) (some h) := by
  have h1 : W.grownBy (w1.alloc (.cells (cT nm kd ty lo hi ns mu mo B1 m1 A1 yf.len c1) 61)) (some h) := grown_of_below (HB1.out.trans (hal.mono HB1.out.size))
  exact grown_trans h1 ((grown_setAny (w1.alloc (.cells (cT nm kd ty lo hi ns mu mo B1 m1 A1 yf.len c1) 61)) h i _ : (w1.alloc (.cells (cT nm kd ty lo hi ns mu mo B1 m1 A1 yf.len c1) 61)).grownBy _ (some h)))
 have hoth : ∀ {q t : Nat} {zs : Array Value}, h ≠ q → Blk (w1.alloc (.cells (cT nm kd ty lo hi ns mu mo B1 m1 A1 yf.len c1) 61)) q t zs → Blk ((w1.alloc (.cells (cT nm kd ty lo hi ns mu mo B1 m1 A1 yf.len c1) 61)).setCell ⟨h, i, none⟩ (.int .i64 ((x : Int) + 1))) q t zs := fun hne hb => hb.far (p := ⟨h, i, none⟩) (fun e => hne e.symm) _
 have hb6 : Blk ((w1.alloc (.cells (cT nm kd ty lo hi ns mu mo B1 m1 A1 yf.len c1) 61)).setCell ⟨h, i, none⟩ (.int .i64 ((x : Int) + 1))) w1.heap.size 61 (cT nm kd ty lo hi ns mu mo B1 m1 A1 yf.len c1) := hoth (by have := HK1.out.bh.lt; omega) (Blk.new w1 61 (cT nm kd ty lo hi ns mu mo B1 m1 A1 yf.len c1))
 have hb4 : Blk ((w1.alloc (.cells (cT nm kd ty lo hi ns mu mo B1 m1 A1 yf.len c1) 61)).setCell ⟨h, i, none⟩ (.int .i64 ((x : Int) + 1))) g4 27 (cN a (.slice A k.len c)) := hoth HK1.out.n4 (HK1.out.b4.below hal HK1.out.b4.lt)
 have hb5 : Blk ((w1.alloc (.cells (cT nm kd ty lo hi ns mu mo B1 m1 A1 yf.len c1) 61)).setCell ⟨h, i, none⟩ (.int .i64 ((x : Int) + 1))) g5 43 #[.slice (some ⟨h, 0, none⟩) sf.len sf.len] := hoth HK1.out.n5 (HK1.out.b5.below hal HK1.out.b5.lt)
 have hbh : Blk ((w1.alloc (.cells (cT nm kd ty lo hi ns mu mo B1 m1 A1 yf.len c1) 61)).setCell ⟨h, i, none⟩ (.int .i64 ((x : Int) + 1))) h 3 (cntC (bump cnt i)) := by
  have h1 := thb.set_ i (.int .i64 ((x : Int) + 1))
  rw [HX.out] at h1 ⊢
  rw [cnt_bump (by rw [HLEN.out]; omega)] at h1
  exact h1
 have hvn3 : Vals ((w1.alloc (.cells (cT nm kd ty lo hi ns mu mo B1 m1 A1 yf.len c1) 61)).setCell ⟨h, i, none⟩ (.int .i64 ((x : Int) + 1))) d1 (.slice B1 ns.length m1) (txts ns) := HVN.out.1.heap (fun h0 => hg3.block d1 (HLB.out d1 (HVN.out.2.1 (by rwa [txts_len] at h0))) (fun e => by injection e with e; have h1 := HH.out.bw; have h2 := HVN.out.2.1 (by rwa [txts_len] at h0); omega))
 have HWD := hHd (And.intro hg3 (And.intro hb6 (And.intro hb4 (And.intro hb5 hbh))))
 have HFT := hHd (vfits_any nm kd ty lo hi ns mu mo B1 m1 d1 A1 yf.len c1 a k A c ((w1.alloc (.cells (cT nm kd ty lo hi ns mu mo B1 m1 A1 yf.len c1) 61)).setCell ⟨h, i, none⟩ (.int .i64 ((x : Int) + 1))) hvn3 HSY.out.1 HH.out.okd (by have h1 := Fr.len_size k; have h2 := HH.out.size; omega))
 rw [hX] at HFT
 clear hX
 have HDY : Hid (SpL b ((w1.alloc (.cells (cT nm kd ty lo hi ns mu mo B1 m1 A1 yf.len c1) 61)).setCell ⟨h, i, none⟩ (.int .i64 ((x : Int) + 1))) (cT nm kd ty lo hi ns mu mo B1 m1 A1 yf.len c1).toList ((⟨nm, kd, ty, lo, hi, ns, mu, mo⟩ : SpD), yf)) := hHd (SpL.keep (b := b) (w := W) HVN.out.2.2 (fun q hq => hg3.block q (HLB.out q hq) (fun e => by injection e with e; have := HH.out.bw; omega)) (Nat.le_refl _))
 have HRK : Hid (RowT b ((w1.alloc (.cells (cT nm kd ty lo hi ns mu mo B1 m1 A1 yf.len c1) 61)).setCell ⟨h, i, none⟩ (.int .i64 ((x : Int) + 1))) (.slice A k.len c) k) := hHd (HH.out.row.keep (fun q hq => hg3.block q (HLB.out q hq) (fun e => by injection e with e; have := HH.out.bw; omega)) (Nat.le_refl _))
 obtain ⟨b6_0, b6_1, b6_2, b6_3, b6_4, b6_5, b6_6, b6_7, b6_8⟩ := cl9 hb6
 obtain ⟨n0, n1, n2, n3, n4, n5⟩ := cl6 hb4
 clear hg3 hoth hb6 hb4 hb5 hbh hvn3 hal thb
 gi_wp2_with fail
 refine ⟨trivial, calls_wideR (ro := none) (HFT.out.mono ?_)⟩
 rintro r w4 ⟨rfl, hb4⟩
 have k3 : ((kd : Int) == 3) = false := beq_eq_false_iff_ne.2 (by have := HKD.out.2; omega)
 have k1 : ((kd : Int) == 1) = false := beq_eq_false_iff_ne.2 (by have := HKD.out.1; omega)
 have k1' : ((kd : Int) != 1) = true := by unfold bne; rw [k1]; rfl
 clear b6_0 b6_1 b6_2 b6_3 b6_4 b6_5 b6_6 b6_7 b6_8 n0 n1 n2 n3 n4 n5 c0' c1' c2' c3' c4' c5' c6' c7' c8' s8 t5 th tf
 have hbd : Below ((w1.alloc (.cells (cT nm kd ty lo hi ns mu mo B1 m1 A1 yf.len c1) 61)).setCell ⟨h, i, none⟩ (.int .i64 ((x : Int) + 1))).heap.size ((w1.alloc (.cells (cT nm kd ty lo hi ns mu mo B1 m1 A1 yf.len c1) 61)).setCell ⟨h, i, none⟩ (.int .i64 ((x : Int) + 1))) w4.drew := hb4.drew
 have HWR : Hid (W.grownBy w4.drew (some h) ∧ Blk w4.drew w1.heap.size 61 (cT nm kd ty lo hi ns mu mo B1 m1 A1 yf.len c1) ∧ Blk w4.drew g4 27 (cN a (.slice A k.len c)) ∧ Blk w4.drew g5 43 #[.slice (some ⟨h, 0, none⟩) sf.len sf.len] ∧ Blk w4.drew h 3 (cntC (bump cnt i))) := hHd ⟨grown_trans HWD.out.1 (grown_of_below hbd), HWD.out.2.1.below hbd HWD.out.2.1.lt, HWD.out.2.2.1.below hbd HWD.out.2.2.1.lt, HWD.out.2.2.2.1.below hbd HWD.out.2.2.2.1.lt, HWD.out.2.2.2.2.below hbd HWD.out.2.2.2.2.lt⟩
 have HCI : Hid ((cntC (bump cnt i))[i]? = some (.int .i64 ((x : Int) + 1))) := hHd (by
  have h1 := cnt_at (c := bump cnt i) (i := i) (by rw [bump_len, HLEN.out]; omega)
  rw [bump_get i (by rw [HLEN.out]; omega), if_pos rfl, ← HX.out] at h1
  rw [h1]
  simp)
 clear hb4 hbd
 gi_wp2_with fail
 refine ⟨fun _ _ => trivial, ?_⟩
 gi_wp2_with fail
 refine wpIn_region_calm (ro := none) ?_
 refine wpIn_region_heldI [] (S := fun _ => True) (by kernel_rfl) trivial (fun hS => ?_)
 refine tkI 0 [0, 1, 2, 3, 4, 5, 6, 7, 8, 9, 10, 11, 12, 13, 14, 15, 16, 17] hS ?_
 refine heldI_more (S' := fun w' => Blk w' w1.heap.size 61 (cT nm kd ty lo hi ns mu mo B1 m1 A1 yf.len c1)) (fun _ _ => trivial) _ _ _ _ ?_
 replace hS := HWR.out.2.1
 refine tkI 1 [1, 2, 3, 4, 5, 6, 7, 8, 9, 10, 11, 12, 13, 14, 15, 16, 17] hS ?_ (hy := fun w hSw => by have y1 := (hSw.cell 1).trans rfl; (go_simp <;> with_reducible rfl))
 refine tkI 2 [2, 3, 4, 5, 6, 7, 8, 9, 10, 11, 12, 13, 14, 15, 16, 17] hS ?_
 refine tkI 3 [3, 4, 5, 6, 7, 8, 9, 10, 11, 12, 13, 14, 15, 16, 17] hS ?_
 refine tkIo 4 [4, 6, 7, 10, 11, 12, 13, 14, 15, 16, 17] hS ?_
 refine tkIo 5 [5, 6, 7, 10, 11, 12, 13, 14, 15, 16, 17] hS ?_
 refine tkIo 6 [6, 7, 10, 11, 12, 13, 14, 15, 16, 17] hS ?_
 refine tkIo 7 [7, 10, 11, 12, 13, 14, 15, 16, 17] hS ?_
 refine tkIo 8 [8, 9, 10, 11, 12, 13, 14, 15, 16, 17] hS ?_
 refine tkIo 9 [9, 10, 11, 12, 13, 14, 15, 16, 17] hS ?_
 refine tkIo 10 [10, 11, 12, 13, 14, 15, 16, 17] hS ?_
 refine tkI 11 [11, 12, 13, 14, 15, 16, 17] hS ?_
 refine tkI 12 [12, 13, 14, 15, 16, 17] hS ?_
 refine tkIo 13 [13, 15, 16, 17] hS ?_
 refine tkIo 14 [14, 15, 16, 17] hS ?_
 refine tkIo 15 [15, 16, 17] hS ?_
 refine tkIo 16 [16, 17] hS ?_
 refine tkI 17 [17] hS ?_
 refine heldI_done (by kernel_rfl) ?_ _
 refine NoPanic.normal ?_
 clear hS
 obtain ⟨z0, z1, z2, z3, z4, z5, z6, z7, z8⟩ := cl9 HWR.out.2.1
 obtain ⟨n0, n1, n2, n3, n4, n5⟩ := cl6 HWR.out.2.2.1
 gi_wp2_with fail
 refine ⟨trivial, calls_wideR (ro := none) ((inside_any [] (.slice A k.len c) (⟨nm, kd, ty, lo, hi, ns, mu, mo⟩ : SpD) (.slice B1 ns.length m1) (.slice A1 yf.len c1) a _).mono ?_)⟩
 rintro r w' ⟨rfl, rfl⟩
 clear z0 z1 z2 z3 z4 z5 z6 z7 z8 n0 n1 n2 n3 n4 n5
 gi_wp2_with fail
 have hb6 : Below w4.heap.size w4 (((w4.alloc (.cells (cT nm kd ty lo hi ns mu mo B1 m1 A1 yf.len c1) 61)).alloc (.cells (cN a (.slice A k.len c)) 27)).drew) := (bAl.alloc (by simp) _).drew
 have hg6 : W.grownBy (((w4.alloc (.cells (cT nm kd ty lo hi ns mu mo B1 m1 A1 yf.len c1) 61)).alloc (.cells (cN a (.slice A k.len c)) 27)).drew) (some h) := grown_trans HWR.out.1 ⟨hb6.os, hb6.tape, hb6.output, hb6.size, fun q hq _ => hb6.block q hq⟩
 have hk6 : ∀ q, q < b → ((((w4.alloc (.cells (cT nm kd ty lo hi ns mu mo B1 m1 A1 yf.len c1) 61)).alloc (.cells (cN a (.slice A k.len c)) 27)).drew)).heap[q]? = W.heap[q]? := fun q hq => hg6.block q (HLB.out q hq) (fun e => by injection e with e; have := HH.out.bw; omega)
 have hlw : b ≤ W.heap.size := Nat.le_trans HH.out.bw (Nat.le_of_lt HH.out.bh.lt)
 have hA : Blk (((w4.alloc (.cells (cT nm kd ty lo hi ns mu mo B1 m1 A1 yf.len c1) 61)).alloc (.cells (cN a (.slice A k.len c)) 27)).drew) w4.heap.size 61 (cT nm kd ty lo hi ns mu mo B1 m1 A1 yf.len c1) := (Blk.new w4 61 (cT nm kd ty lo hi ns mu mo B1 m1 A1 yf.len c1)).alloc _
 have hB : Blk (((w4.alloc (.cells (cT nm kd ty lo hi ns mu mo B1 m1 A1 yf.len c1) 61)).alloc (.cells (cN a (.slice A k.len c)) 27)).drew) (w4.heap.size + 1) 27 (cN a (.slice A k.len c)) := Blk.newA (w := w4.alloc (.cells (cT nm kd ty lo hi ns mu mo B1 m1 A1 yf.len c1) 61)) (by simp) _ _
 have hins := HIP.out.1 ((⟨nm, kd, ty, lo, hi, ns, mu, mo⟩ : SpD), yf) ((cT nm kd ty lo hi ns mu mo B1 m1 A1 yf.len c1)).toList a A c b w4.heap.size (w4.heap.size + 1) (((w4.alloc (.cells (cT nm kd ty lo hi ns mu mo B1 m1 A1 yf.len c1) 61)).alloc (.cells (cN a (.slice A k.len c)) 27)).drew) (SpL.keep (b := b) (w := W) HVN.out.2.2 hk6 (Nat.le_refl _)) HSY.out.2.2 HSY.out.2.1 (HH.out.row.keep hk6 (Nat.le_refl _)) hA hB (Nat.le_trans hlw hg6.size) HH.out.size HH.out.okf
 have hyl : ∀ args W1, Below ((((w4.alloc (.cells (cT nm kd ty lo hi ns mu mo B1 m1 A1 yf.len c1) 61)).alloc (.cells (cN a (.slice A k.len c)) 27)).drew)).heap.size (((w4.alloc (.cells (cT nm kd ty lo hi ns mu mo B1 m1 A1 yf.len c1) 61)).alloc (.cells (cN a (.slice A k.len c)) 27)).drew) W1 → EncO (insideX yf k) ((((w4.alloc (.cells (cT nm kd ty lo hi ns mu mo B1 m1 A1 yf.len c1) 61)).alloc (.cells (cN a (.slice A k.len c)) 27)).drew)).heap.size args W1 → ∀ m, YieldAt Fence.wide m Tryz.prog l args W1 (StopY ((((w4.alloc (.cells (cT nm kd ty lo hi ns mu mo B1 m1 A1 yf.len c1) 61)).alloc (.cells (cN a (.slice A k.len c)) 27)).drew)).heap.size Jx W1) := fun args W1 hb he m =>
  (HY.out args W1 (grown_trans hg6 (grown_of_below hb)) (he.mono hg6.size) m).mono fun e w' ⟨g1, g2, g3⟩ => ⟨g1, g2, keepsFrom_mono g3 hg6.size⟩
 have HG6 := hHd (And.intro hg6 (hb6.block h (by have h1 := HWR.out.2.2.2.2.lt; exact h1)))
 refine ⟨trivial, (callsIn_wide (n := 8)).2 ((hins l Jx (((w4.alloc (.cells (cT nm kd ty lo hi ns mu mo B1 m1 A1 yf.len c1) 61)).alloc (.cells (cN a (.slice A k.len c)) 27)).drew) (Below.refl _ _) (OwnFrom.le HIP.out.2 hg6.size) hyl).mono ?_)⟩
 rintro e W7 ⟨⟨v7, rfl⟩, hp7⟩
 have HEND : Hid (KidQ h (bump cnt i) (insideX yf k) Jx W (.returned (.tuple #[])) W7) := hHd (by
  refine ⟨⟨_, rfl⟩, ?_⟩
  cases ho : (insideX yf k).isSome with
  | true => rw [ho, if_pos rfl] at hp7; rw [if_pos rfl]; exact hp7
  | false =>
   rw [ho, if_neg (by simp)] at hp7
   rw [if_neg (by simp)]
   exact ⟨grown_trans HG6.out.1 (grown_of_below hp7), (hp7.block h (by have h1 := HWR.out.2.2.2.2.lt; have h2 := hb6.size; exact Nat.lt_of_lt_of_le h1 h2)).trans (HG6.out.2.trans HWR.out.2.2.2.2)⟩)
 clear hb6 hg6 hk6 hlw hA hB hins hyl hp7
 gi_wp2
 go_end0
 exact HEND.out
theorem kidp_seq (sd : SpD) (sf : SpF) (cs : List Value) (a : NdD) (k : NdF) (A : Option Addr) (c b g3 g4 g5 h : Nat) (cnt : List Nat) (w : World) (H : KidH (sd, sf) cs a k A c b g3 g4 g5 h cnt w) (hk : InsideP k) :
  SeqOneH h 3 (cntC (kidC10 sf a cnt)) Tryz.prog 105 #[.pointer (some ⟨g3, 0, none⟩), .pointer (some ⟨g4, 0, none⟩), .pointer (some ⟨g5, 0, none⟩)] (EncO (kidO10 sf a k cnt)) (kidO10 sf a k cnt).isSome w := fun l Jx W hW hJx hY => by
 refine (callsIn_wide (n := 9)).1 ?_
 have HW := H.below hW
 unfold kidO10 kidC10 at *
 cases hf : findX a.name sf with
 | none =>
  simp only [hf] at hY ⊢
  exact kidp_name sd sf cs a k A c b g3 g4 g5 h cnt l Jx W HW hf hY
 | some i =>
  obtain ⟨⟨yd, yf⟩, hg, -, -⟩ := sp_get hf
  obtain ⟨nm, kd, ty, lo, hi, ns, mu, mo⟩ := yd
  simp only [hf, hg] at hY ⊢
  have hh := head_fits (⟨nm, kd, ty, lo, hi, ns, mu, mo⟩ : SpD) a k (cnt.getD i 0)
  unfold kidX1 at hY ⊢
  cases hX : fitX10 (⟨nm, kd, ty, lo, hi, ns, mu, mo⟩ : SpD) a k with
  | false =>
   rw [if_pos hX] at hh
   simp only [hh] at hY ⊢
   exact kidp_val sd sf cs a k A c b g3 g4 g5 h cnt l Jx W HW i nm kd ty lo hi ns mu mo yf hf hg hX hY
  | true =>
   rw [if_neg (by rw [hX]; decide)] at hh
   by_cases h3 : kd = 3
   ·by_cases hm : mo ≤ cnt.getD i 0
    ·rw [if_pos ⟨h3, hm⟩] at hh
     simp only [hh] at hY ⊢
     exact kidp_many sd sf cs a k A c b g3 g4 g5 h cnt l Jx W HW i nm kd ty lo hi ns mu mo yf hf hg hX h3 hm hY
    ·rw [if_neg (fun h => hm h.2)] at hh
     have h1 : ¬ kd = 1 := by omega
     simp only [hh, h1, if_false] at hY ⊢
     exact kidp_list sd sf cs a k A c b g3 g4 g5 h cnt l Jx W HW i nm kd ty lo hi ns mu mo yf hf hg hX h3 hm hk hJx hY
   ·rw [if_neg (fun h => h3 h.1)] at hh
    by_cases h1 : kd = 1
    ·subst h1
     simp only [hh, if_true] at hY ⊢
     exact kidp_leaf sd sf cs a k A c b g3 g4 g5 h cnt l Jx W HW i nm 1 ty lo hi ns mu mo yf hf hg hX rfl hY
    ·simp only [hh, h1, if_false] at hY ⊢
     exact kidp_box sd sf cs a k A c b g3 g4 g5 h cnt l Jx W HW i nm kd ty lo hi ns mu mo yf hf hg hX h1 h3 hk hJx hY
end
end Go.Proofs.YtodlhgflfcadmaaGreat

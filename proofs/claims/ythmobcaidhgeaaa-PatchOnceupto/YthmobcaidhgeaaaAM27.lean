/- PatRefE PpvE -/
import Derived.Test.YthmobcaidhgeaaaAM26
set_option linter.unusedSimpArgs false
set_option linter.unusedVariables false
set_option maxRecDepth 100000
set_option maxHeartbeats 8000000
namespace Go.Proofs.Ythmobcaidhgeaaa
open Go.RowKit
section
attribute [local go_sem] Oper.semAt_some
theorem res_ctt17 {P : Program} {fn : Func} {p u v : Tmp} {ty : TypeId} (h : fn.results = #[.cell p ty, .tmp u, .tmp v]) (tmps : Array Value) (w : World) (g : Nat) (t : TypeId) (cs : Array Value) (fr : Nat × Nat) (d : TypeDesc)
  (hp : tmps.getD p undef = .pointer (some ⟨g, 0, none⟩)) (hg : w.heap[g]? = some (.cells cs t fr))
  (hu : P.underlying ty = some d) (hd : (match d with | .struct _ | .array _ _ => true | _ => false) = true) (hi : (P.info? ty).map (·.size) = some cs.size) :
  (results fn tmps).run P w = .ok (.tuple #[.agg cs, tmps.getD u undef, tmps.getD v undef]) w := by
 have hp' : tmps[p]?.getD undef = .pointer (some ⟨g, 0, none⟩) := by simpa using hp
 simp [results, h, hp', asAddr, Sem.run_bind, Result.andThen, run_loadVar_row w g t ty cs fr d hg hu hd hi]
end
section
attribute [local go_sem] Oper.semAt_some
def Pp2 (w : World) (a : NdD) (f : NdF) (A : Option Addr) (c : Nat) (W : World) : Prop := Blk W w.heap.size 27 (cN a (.slice A f.len c)) ∧ Blk W (w.heap.size + 1) 27 #[.string ⟨#[]⟩, .string ⟨#[]⟩, .int .i64 0, .int .u64 0, .string ⟨#[]⟩, .slice none 0 0] ∧ LieP 0 (w.heap.size + 2) W (ndC a (.slice A f.len c)) (a, f) ∧ Below w.heap.size w W
theorem pp2_of {w W : World} {a : NdD} {f : NdF} {A : Option Addr} {c : Nat} {x0 x1 x2 x3 x4 x5 : Value} {B : Nat} (h0 : Blk W w.heap.size 27 #[x0, x1, x2, x3, x4, x5]) (h1 : Blk W (w.heap.size + 1) 27 #[.string ⟨#[]⟩, .string ⟨#[]⟩, .int .i64 0, .int .u64 0, .string ⟨#[]⟩, .slice none 0 0]) (h2 : LieP 0 B W (ndC a (.slice A f.len c)) (a, f)) (hB : w.heap.size + 2 ≤ B) (h3 : Below w.heap.size w W) :
  Pp2 w a f A c (set6 W w.heap.size (.string (txt a.name)) (.string (txt a.key)) (.int .i64 a.kind) (.int .u64 (a.num : Int)) (.string (txt a.text)) (.slice A f.len c)) :=
 ⟨h0.set6 _ _ _ _ _ _, (set6_other (by omega)).trans h1, (h2.set6 (Nat.zero_le _) (by omega) _ _ _ _ _ _).after hB, h3.trans (set6_below (Nat.le_refl _))⟩
theorem papply_any (n : Nd) (l : List EdD) (cs : List Value) (v : Value) (w : World) (hn : LieN w cs n) (hv : EdsV (Bel w) w v l) (hF : FewR n l) (hr : rgtX n = true) (hrl : ∀ e ∈ l, rgtX e.node = true) :
  Calls Try.prog 13 #[.agg cs.toArray, v] w (RunP 0 (runXE n l 0) w) := by
 obtain ⟨a, f⟩ := n
 obtain ⟨A, c, rfl, hrow⟩ := LieB.shape hn
 obtain ⟨B, d, rfl⟩ := hv.shape
 have h1 : Blk ((w.alloc (.cells (cN a (.slice A f.len c)) 27)).alloc (.cells #[.string ⟨#[]⟩, .string ⟨#[]⟩, .int .i64 0, .int .u64 0, .string ⟨#[]⟩, .slice none 0 0] 27)) w.heap.size 27 (cN a (.slice A f.len c)) := (Blk.new _ _ _).alloc _
 have h2 : Blk ((w.alloc (.cells (cN a (.slice A f.len c)) 27)).alloc (.cells #[.string ⟨#[]⟩, .string ⟨#[]⟩, .int .i64 0, .int .u64 0, .string ⟨#[]⟩, .slice none 0 0] 27)) (w.heap.size + 1) 27 #[.string ⟨#[]⟩, .string ⟨#[]⟩, .int .i64 0, .int .u64 0, .string ⟨#[]⟩, .slice none 0 0] := Blk.new_atP (by simp) _ _
 have h3 : Below w.heap.size w ((w.alloc (.cells (cN a (.slice A f.len c)) 27)).alloc (.cells #[.string ⟨#[]⟩, .string ⟨#[]⟩, .int .i64 0, .int .u64 0, .string ⟨#[]⟩, .slice none 0 0] 27)) := bAl.alloc (by simp) _
 have h4 : ((w.alloc (.cells (cN a (.slice A f.len c)) 27)).alloc (.cells #[.string ⟨#[]⟩, .string ⟨#[]⟩, .int .i64 0, .int .u64 0, .string ⟨#[]⟩, .slice none 0 0] 27)).heap.size = w.heap.size + 2 := by simp
 have hg := getT ((w.alloc (.cells (cN a (.slice A f.len c)) 27)).alloc (.cells #[.string ⟨#[]⟩, .string ⟨#[]⟩, .int .i64 0, .int .u64 0, .string ⟨#[]⟩, .slice none 0 0] 27)) (a, f) [] _ (.slice none 0 0) ((w.alloc (.cells (cN a (.slice A f.len c)) 27)).alloc (.cells #[.string ⟨#[]⟩, .string ⟨#[]⟩, .int .i64 0, .int .u64 0, .string ⟨#[]⟩, .slice none 0 0] 27)) (hn.below h3) (WayV.nil _ _ _ _) (Nat.le_trans hF.1 (by omega)) (by simp) (Below.refl _ _)
 rw [GetX_nil] at hg
 have HG := hHd hg
 have HX := hHd h1
 have HZ := hHd h2
 have HB := hHd h3
 have HS0 := hHd h4
 have HV := hHd hv
 have HF := hHd hF
 have HRL := hHd hrl
 have HRN := hHd hr
 have l0 : l.length ≤ 600 := hF.2.1
 have HS : Hid (f.size ≤ 400000) := hHd hF.1
 clear hn hv hF hrow h1 h2 h3 h4 hg hr hrl
 go_enter Try.func13, Try.ntmps13
 go_upto_region 1 with (fail)
 revert HG HX HZ HB HS0
 generalize ((w.alloc (.cells (cN a (.slice A f.len c)) 27)).alloc (.cells #[.string ⟨#[]⟩, .string ⟨#[]⟩, .int .i64 0, .int .u64 0, .string ⟨#[]⟩, .slice none 0 0] 27)) = w0
 intro HG HX HZ HB HS0
 go_cut [] (fun wx => ∃ (A3 : Option Addr) (c3 : Nat), Hid (Pp2 w a f A3 c3 wx))
 case first =>
  obtain ⟨q0, q1, q2, q3, q4, q5⟩ := cl6 HX.out
  go_wp2_with fail
  refine HG.out.mono ?_
  rintro r w1 ⟨cs, rfl, hn, hb⟩
  obtain ⟨A3, c3, rfl, -⟩ := hn.lieP.shape
  have HL1 := hHd hn.lieP
  have HX1 := hHd (HX.out.below hb HX.out.lt)
  have HZ1 := hHd (HZ.out.below hb HZ.out.lt)
  have HB1 := hHd (HB.out.trans (hb.mono HB.out.size))
  have HQ : Hid (Pp2 w a f A3 c3 (set6 w1 w.heap.size (.string (txt a.name)) (.string (txt a.key)) (.int .i64 a.kind) (.int .u64 (a.num : Int)) (.string (txt a.text)) (.slice A3 f.len c3))) := hHd (pp2_of HX1.out HZ1.out HL1.out (by rw [HS0.out]; exact Nat.le_refl _) HB1.out)
  clear hn hb q0 q1 q2 q3 q4 q5
  have fz0 : (w1).frozen? ⟨w.heap.size, 0, none⟩ = false := HX1.out.frozen 0
  have fq0 := (HX1.out.cell 0).trans rfl
  have fz1 : (w1).frozen? ⟨w.heap.size, 1, none⟩ = false := HX1.out.frozen 1
  have fq1 := (HX1.out.cell 1).trans rfl
  have fz2 : (w1).frozen? ⟨w.heap.size, 2, none⟩ = false := HX1.out.frozen 2
  have fq2 := (HX1.out.cell 2).trans rfl
  have fz3 : (w1).frozen? ⟨w.heap.size, 3, none⟩ = false := HX1.out.frozen 3
  have fq3 := (HX1.out.cell 3).trans rfl
  have fz4 : (w1).frozen? ⟨w.heap.size, 4, none⟩ = false := HX1.out.frozen 4
  have fq4 := (HX1.out.cell 4).trans rfl
  have fz5 : (w1).frozen? ⟨w.heap.size, 5, none⟩ = false := HX1.out.frozen 5
  have fq5 := (HX1.out.cell 5).trans rfl
  clear HX1 HZ1 HB1 HL1 HX HZ HB HG HS0
  go_wp2_with fail
  go_meet
  exact ⟨_, _, HQ⟩
 case rest =>
 obtain ⟨A3, c3, HQ⟩ := hcut
 clear HX HZ HB HG HS0
 go_wp2
 go_loopw [17] (fun vi wr => ∃ (j : Nat) (ma : NdD) (mf : NdF) (M : Option Addr) (mc : Nat), j ≤ l.length ∧ vi = .int .i64 (j : Int) ∧ Hid (runXE (a, f) l 0 = runXE (ma, mf) (l.drop j) j) ∧ Hid (mf.size ≤ 400000 + j * 601) ∧ Hid (rgtX (ma, mf) = true) ∧ Hid (Pp2 w ma mf M mc wr)) (fun vi _ => l.length - (intOf vi).toNat)
 case atStart => exact ⟨0, a, f, A3, c3, Nat.zero_le _, rfl, hHd rfl, hHd (by have := HS.out; omega), HRN, HQ⟩
 case round =>
  clear HQ HS HRN
  obtain ⟨j, ma, mf, M, mc, hj, rfl, HR, HS, HRM, HQ⟩ := hrel
  obtain ⟨w7, hw7⟩ : ∃ w7, w7 = wr := ⟨_, rfl⟩
  subst hw7
  have i1 : (0 : Int) ≤ (j : Int) := by omega
  by_cases hlt : j < l.length
  ·have i2 : (j : Int) < (l.length : Int) := by omega
   obtain ⟨x, hx⟩ : ∃ x, l[j]? = some x := ⟨_, List.getElem?_eq_getElem hlt⟩
   have hdr : l.drop j = x :: l.drop (j + 1) := by
    rw [List.drop_eq_getElem_cons hlt]
    have h9 := List.getElem?_eq_getElem hlt
    rw [hx] at h9
    injection h9 with h9
    rw [h9]
   have hFx := HF.out.2.2 x (List.mem_of_getElem? hx)
   have hRx := HRL.out x (List.mem_of_getElem? hx)
   obtain ⟨g9, o9, Aw, cw, An, cn, Ao, co, rfl, -, -, hg9, hw9, hn9, ho9, hcl⟩ := HV.out.at hx
   obtain ⟨xk, xw, ⟨xp, xpf⟩, ⟨xo, xof⟩⟩ := x
   simp only at hw9 hn9 ho9 hcl hRx
   obtain ⟨E, hE⟩ : ∃ E, E = (oneX (ma, mf) ⟨xk, xw, (xp, xpf), (xo, xof)⟩).2 := ⟨_, rfl⟩
   obtain ⟨⟨ra, rf⟩, hR⟩ : ∃ R, R = (oneX (ma, mf) ⟨xk, xw, (xp, xpf), (xo, xof)⟩).1 := ⟨_, rfl⟩
   have HR2 : Hid (runXE (a, f) l 0 = if E = 0 then runXE (ra, rf) (l.drop (j + 1)) (j + 1) else (noN, E, j)) := hHd (by rw [HR.out, hdr]; simp only [runXE]; rw [← hE, ← hR])
   have HRR : Hid (E = 0 → rgtX (ra, rf) = true) := hHd (fun h0 => rgt_one HRM.out hRx (x := ⟨xk, xw, (xp, xpf), (xo, xof)⟩) (Prod.ext hR.symm (by rw [← hE, h0])))
   have HS2 : Hid (rf.size ≤ 400000 + (j + 1) * 601) := hHd (by
    have h := one_size (ma, mf) ⟨xk, xw, (xp, xpf), (xo, xof)⟩
    rw [← hR] at h
    obtain ⟨_, z2, _⟩ := hFx
    simp only at h z2
    have h5 := HS.out
    omega)
   have hb8 : Below w7.heap.size w7 (w7.alloc (.cells #[.int .i64 xk, .slice Aw xw.length cw, .string (txt xp.name), .string (txt xp.key), .int .i64 xp.kind, .int .u64 (xp.num : Int), .string (txt xp.text), .slice An xpf.len cn, .string (txt xo.name), .string (txt xo.key), .int .i64 xo.kind, .int .u64 (xo.num : Int), .string (txt xo.text), .slice Ao xof.len co] 37)) := bAl
   have HB8 : Hid (Below w.heap.size w (w7.alloc (.cells #[.int .i64 xk, .slice Aw xw.length cw, .string (txt xp.name), .string (txt xp.key), .int .i64 xp.kind, .int .u64 (xp.num : Int), .string (txt xp.text), .slice An xpf.len cn, .string (txt xo.name), .string (txt xo.key), .int .i64 xo.kind, .int .u64 (xo.num : Int), .string (txt xo.text), .slice Ao xof.len co] 37))) := hHd (HQ.out.2.2.2.trans (hb8.mono HQ.out.2.2.2.size))
   have HX8 : Hid (Blk (w7.alloc (.cells #[.int .i64 xk, .slice Aw xw.length cw, .string (txt xp.name), .string (txt xp.key), .int .i64 xp.kind, .int .u64 (xp.num : Int), .string (txt xp.text), .slice An xpf.len cn, .string (txt xo.name), .string (txt xo.key), .int .i64 xo.kind, .int .u64 (xo.num : Int), .string (txt xo.text), .slice Ao xof.len co] 37)) w.heap.size 27 (cN ma (.slice M mf.len mc))) := hHd (HQ.out.1.below hb8 HQ.out.1.lt)
   have HZ8 : Hid (Blk (w7.alloc (.cells #[.int .i64 xk, .slice Aw xw.length cw, .string (txt xp.name), .string (txt xp.key), .int .i64 xp.kind, .int .u64 (xp.num : Int), .string (txt xp.text), .slice An xpf.len cn, .string (txt xo.name), .string (txt xo.key), .int .i64 xo.kind, .int .u64 (xo.num : Int), .string (txt xo.text), .slice Ao xof.len co] 37)) (w.heap.size + 1) 27 #[.string ⟨#[]⟩, .string ⟨#[]⟩, .int .i64 0, .int .u64 0, .string ⟨#[]⟩, .slice none 0 0]) := hHd (HQ.out.2.1.below hb8 HQ.out.2.1.lt)
   have HE8 : Hid (Blk (w7.alloc (.cells #[.int .i64 xk, .slice Aw xw.length cw, .string (txt xp.name), .string (txt xp.key), .int .i64 xp.kind, .int .u64 (xp.num : Int), .string (txt xp.text), .slice An xpf.len cn, .string (txt xo.name), .string (txt xo.key), .int .i64 xo.kind, .int .u64 (xo.num : Int), .string (txt xo.text), .slice Ao xof.len co] 37)) w7.heap.size 37 #[.int .i64 xk, .slice Aw xw.length cw, .string (txt xp.name), .string (txt xp.key), .int .i64 xp.kind, .int .u64 (xp.num : Int), .string (txt xp.text), .slice An xpf.len cn, .string (txt xo.name), .string (txt xo.key), .int .i64 xo.kind, .int .u64 (xo.num : Int), .string (txt xo.text), .slice Ao xof.len co]) := hHd (Blk.new _ _ _)
   have HW8 : Hid (w.heap.size + 2 ≤ (w7.alloc (.cells #[.int .i64 xk, .slice Aw xw.length cw, .string (txt xp.name), .string (txt xp.key), .int .i64 xp.kind, .int .u64 (xp.num : Int), .string (txt xp.text), .slice An xpf.len cn, .string (txt xo.name), .string (txt xo.key), .int .i64 xo.kind, .int .u64 (xo.num : Int), .string (txt xo.text), .slice Ao xof.len co] 37)).heap.size) := hHd (Nat.le_trans HQ.out.2.1.lt hb8.size)
   have HO : Hid (Calls Try.prog 10 #[.agg (cN ma (.slice M mf.len mc)), .agg #[.int .i64 xk, .slice Aw xw.length cw, .string (txt xp.name), .string (txt xp.key), .int .i64 xp.kind, .int .u64 (xp.num : Int), .string (txt xp.text), .slice An xpf.len cn, .string (txt xo.name), .string (txt xo.key), .int .i64 xo.kind, .int .u64 (xo.num : Int), .string (txt xo.text), .slice Ao xof.len co]] (w7.alloc (.cells #[.int .i64 xk, .slice Aw xw.length cw, .string (txt xp.name), .string (txt xp.key), .int .i64 xp.kind, .int .u64 (xp.num : Int), .string (txt xp.text), .slice An xpf.len cn, .string (txt xo.name), .string (txt xo.key), .int .i64 xo.kind, .int .u64 (xo.num : Int), .string (txt xo.text), .slice Ao xof.len co] 37)) (PTreP 0 (ra, rf) (.int .i64 (E : Int)) (w7.alloc (.cells #[.int .i64 xk, .slice Aw xw.length cw, .string (txt xp.name), .string (txt xp.key), .int .i64 xp.kind, .int .u64 (xp.num : Int), .string (txt xp.text), .slice An xpf.len cn, .string (txt xo.name), .string (txt xo.key), .int .i64 xo.kind, .int .u64 (xo.num : Int), .string (txt xo.text), .slice Ao xof.len co] 37)))) := hHd (by
    have h5 := HS.out
    have he : EdS (Bel (w7.alloc (.cells #[.int .i64 xk, .slice Aw xw.length cw, .string (txt xp.name), .string (txt xp.key), .int .i64 xp.kind, .int .u64 (xp.num : Int), .string (txt xp.text), .slice An xpf.len cn, .string (txt xo.name), .string (txt xo.key), .int .i64 xo.kind, .int .u64 (xo.num : Int), .string (txt xo.text), .slice Ao xof.len co] 37))) (w7.alloc (.cells #[.int .i64 xk, .slice Aw xw.length cw, .string (txt xp.name), .string (txt xp.key), .int .i64 xp.kind, .int .u64 (xp.num : Int), .string (txt xp.text), .slice An xpf.len cn, .string (txt xo.name), .string (txt xo.key), .int .i64 xo.kind, .int .u64 (xo.num : Int), .string (txt xo.text), .slice Ao xof.len co] 37)) (edC xk (.slice Aw xw.length cw) xp (.slice An xpf.len cn) xo (.slice Ao xof.len co)) ⟨xk, xw, (xp, xpf), (xo, xof)⟩ := ⟨_, _, _, rfl, hw9.keep (fun g hg => HB8.out.block g hg) (fun g hg => Nat.lt_of_lt_of_le hg HB8.out.size), RowS.keep hn9 (fun g hg => HB8.out.block g hg) (fun g hg => Nat.lt_of_lt_of_le hg HB8.out.size), RowS.keep ho9 (fun g hg => HB8.out.block g hg) (fun g hg => Nat.lt_of_lt_of_le hg HB8.out.size)⟩
    have h := pone_any (ma, mf) ⟨xk, xw, (xp, xpf), (xo, xof)⟩ (ndC ma (.slice M mf.len mc)) _ (w7.alloc (.cells #[.int .i64 xk, .slice Aw xw.length cw, .string (txt xp.name), .string (txt xp.key), .int .i64 xp.kind, .int .u64 (xp.num : Int), .string (txt xp.text), .slice An xpf.len cn, .string (txt xo.name), .string (txt xo.key), .int .i64 xo.kind, .int .u64 (xo.num : Int), .string (txt xo.text), .slice Ao xof.len co] 37)) ((HQ.out.2.2.1.lies (Nat.zero_le _)).below hb8) he (by simp only; omega) hFx HRM.out
    rw [← hE, ← hR] at h
    exact h)
   have HCL : ∀ i u, (edC xk (.slice Aw xw.length cw) xp (.slice An xpf.len cn) xo (.slice Ao xof.len co))[i]? = some u → w7.cell? ⟨g9, o9 + j * 14 + i, none⟩ = some u := fun i u hu => (HQ.out.2.2.2.cell (p := ⟨g9, o9 + j * 14 + i, none⟩) hg9).trans (hcl i u hu)
   have p0 : w7.cell? ⟨g9, o9 + j * 14, none⟩ = _ := HCL 0 _ rfl
   have p1 := HCL 1 _ rfl
   have p2 := HCL 2 _ rfl
   have p3 := HCL 3 _ rfl
   have p4 := HCL 4 _ rfl
   have p5 := HCL 5 _ rfl
   have p6 := HCL 6 _ rfl
   have p7 := HCL 7 _ rfl
   have p8 := HCL 8 _ rfl
   have p9 := HCL 9 _ rfl
   have p10 := HCL 10 _ rfl
   have p11 := HCL 11 _ rfl
   have p12 := HCL 12 _ rfl
   have p13 := HCL 13 _ rfl
   have n0 : j < l.length := hlt
   clear hw9 hn9 ho9 hcl hx hg9 hE hR hdr hlt hFx hRx hb8 HCL
   go_upto_region 6 with (fail)
   clear p0 p1 p2 p3 p4 p5 p6 p7 p8 p9 p10 p11 p12 p13
   revert HB8 HX8 HZ8 HE8 HW8 HO
   generalize (w7.alloc (.cells #[.int .i64 xk, .slice Aw xw.length cw, .string (txt xp.name), .string (txt xp.key), .int .i64 xp.kind, .int .u64 (xp.num : Int), .string (txt xp.text), .slice An xpf.len cn, .string (txt xo.name), .string (txt xo.key), .int .i64 xo.kind, .int .u64 (xo.num : Int), .string (txt xo.text), .slice Ao xof.len co] 37)) = w8
   intro HB8 HX8 HZ8 HE8 HW8 HO
   go_cut [9] (fun t9 wx => t9 = .int .i64 (E : Int) ∧ ∃ (A8 : Option Addr) (c8 : Nat), Hid (Pp2 w ra rf A8 c8 wx))
   case first =>
    go_wp2_with (first | (refine wpList_load_row rfl 27 (.tmp 2) rfl w.heap.size (by rfl) 27 _ (0, 0) _ HX8.out Try.underlying27 rfl (by kernel_rfl) ?_) | (refine wpList_load_row rfl 37 (.tmp 8) rfl w7.heap.size (by rfl) 37 _ (0, 0) _ HE8.out Try.underlying37 rfl (by kernel_rfl) ?_))
    refine HO.out.mono ?_
    intro r w9 hr
    obtain ⟨A8, c8, rfl, hl9, hb⟩ := hr.flat
    have HX9 := hHd (HX8.out.below hb HX8.out.lt)
    have HZ9 := hHd (HZ8.out.below hb HZ8.out.lt)
    have HB9 := hHd (HB8.out.trans (hb.mono HB8.out.size))
    have HQ9 : Hid (Pp2 w ra rf A8 c8 (set6 w9 w.heap.size (.string (txt ra.name)) (.string (txt ra.key)) (.int .i64 ra.kind) (.int .u64 (ra.num : Int)) (.string (txt ra.text)) (.slice A8 rf.len c8))) := hHd (pp2_of HX9.out HZ9.out hl9 HW8.out HB9.out)
    clear hl9 hb hr
    have fz0 : (w9).frozen? ⟨w.heap.size, 0, none⟩ = false := HX9.out.frozen 0
    have fq0 := (HX9.out.cell 0).trans rfl
    have fz1 : (w9).frozen? ⟨w.heap.size, 1, none⟩ = false := HX9.out.frozen 1
    have fq1 := (HX9.out.cell 1).trans rfl
    have fz2 : (w9).frozen? ⟨w.heap.size, 2, none⟩ = false := HX9.out.frozen 2
    have fq2 := (HX9.out.cell 2).trans rfl
    have fz3 : (w9).frozen? ⟨w.heap.size, 3, none⟩ = false := HX9.out.frozen 3
    have fq3 := (HX9.out.cell 3).trans rfl
    have fz4 : (w9).frozen? ⟨w.heap.size, 4, none⟩ = false := HX9.out.frozen 4
    have fq4 := (HX9.out.cell 4).trans rfl
    have fz5 : (w9).frozen? ⟨w.heap.size, 5, none⟩ = false := HX9.out.frozen 5
    have fq5 := (HX9.out.cell 5).trans rfl
    clear HX9 HZ9 HB9 HX8 HZ8 HB8 HE8 HO HQ
    go_wp2_with fail
    go_meet
    exact ⟨rfl, _, _, HQ9⟩
   case rest =>
    obtain ⟨rfl, A8, c8, HQ9⟩ := hcut
    obtain ⟨w9, hw9⟩ : ∃ w9, w9 = wc := ⟨_, rfl⟩
    subst hw9
    clear HX8 HZ8 HB8 HE8 HO HQ HW8
    by_cases h0 : E = 0
    ·have z0 : ((E : Int) == 0) = true := by simp [h0]
     have z1 : ((E : Int) != 0) = false := by simp [h0]
     have HR3 : Hid (runXE (a, f) l 0 = runXE (ra, rf) (l.drop (j + 1)) (j + 1)) := hHd (by rw [HR2.out, if_pos h0])
     have HR4 := hHd (HRR.out h0)
     clear h0 HR HR2 HRR HRM
     go_wp2
     go_roundw
     case rel => exact ⟨j + 1, ra, rf, A8, c8, by omega, by go_num, HR3, HS2, HR4, HQ9⟩
     case measure => simp [intOf]; omega
    ·have z0 : ((E : Int) == 0) = false := by simp [h0]
     have z1 : ((E : Int) != 0) = true := by simp [h0]
     have HR3 : Hid (runXE (a, f) l 0 = (noN, E, j)) := hHd (by rw [HR2.out, if_neg h0])
     have V9 : Veil17 (Blk (set6 w9 (w.heap.size + 1) (.string ⟨#[]⟩) (.string ⟨#[]⟩) (.int .i64 0) (.int .u64 0) (.string ⟨#[]⟩) (.slice none 0 0)) (w.heap.size + 1) 27 #[.string ⟨#[]⟩, .string ⟨#[]⟩, .int .i64 0, .int .u64 0, .string ⟨#[]⟩, .slice none 0 0] ∧ Below w.heap.size w (set6 w9 (w.heap.size + 1) (.string ⟨#[]⟩) (.string ⟨#[]⟩) (.int .i64 0) (.int .u64 0) (.string ⟨#[]⟩) (.slice none 0 0))) := .mk ⟨HQ9.out.2.1.set6 _ _ _ _ _ _, HQ9.out.2.2.2.trans (set6_below (Nat.le_succ _))⟩
     have fz0 : (w9).frozen? ⟨w.heap.size + 1, 0, none⟩ = false := HQ9.out.2.1.frozen 0
     have fq0 := (HQ9.out.2.1.cell 0).trans rfl
     have fz1 : (w9).frozen? ⟨w.heap.size + 1, 1, none⟩ = false := HQ9.out.2.1.frozen 1
     have fq1 := (HQ9.out.2.1.cell 1).trans rfl
     have fz2 : (w9).frozen? ⟨w.heap.size + 1, 2, none⟩ = false := HQ9.out.2.1.frozen 2
     have fq2 := (HQ9.out.2.1.cell 2).trans rfl
     have fz3 : (w9).frozen? ⟨w.heap.size + 1, 3, none⟩ = false := HQ9.out.2.1.frozen 3
     have fq3 := (HQ9.out.2.1.cell 3).trans rfl
     have fz4 : (w9).frozen? ⟨w.heap.size + 1, 4, none⟩ = false := HQ9.out.2.1.frozen 4
     have fq4 := (HQ9.out.2.1.cell 4).trans rfl
     have fz5 : (w9).frozen? ⟨w.heap.size + 1, 5, none⟩ = false := HQ9.out.2.1.frozen 5
     have fq5 := (HQ9.out.2.1.cell 5).trans rfl
     clear HQ9 h0 HR HR2 HRR HRM
     go_wp2
     refine bodyPost_ret (res_ctt17 rfl _ _ (w.heap.size + 1) 27 _ (0, 0) _ rfl V9.out.1 Try.underlying27 rfl (by kernel_rfl)) rfl ?_
     rw [HR3.out]
     exact ⟨ndC zeroT (.slice none 0 0), rfl, (LieB.zero _ _).p _, V9.out.2⟩
  ·obtain rfl : j = l.length := by omega
   have i2 : ¬ (l.length : Int) < (l.length : Int) := by omega
   have HR3 : Hid (runXE (a, f) l 0 = ((ma, mf), 0, 0)) := hHd (by rw [HR.out, List.drop_length]; rfl)
   have V9 : Veil17 (Blk (set6 w7 (w.heap.size + 1) (.string (txt ma.name)) (.string (txt ma.key)) (.int .i64 ma.kind) (.int .u64 (ma.num : Int)) (.string (txt ma.text)) (.slice M mf.len mc)) (w.heap.size + 1) 27 (cN ma (.slice M mf.len mc)) ∧ LieP 0 w.heap.size (set6 w7 (w.heap.size + 1) (.string (txt ma.name)) (.string (txt ma.key)) (.int .i64 ma.kind) (.int .u64 (ma.num : Int)) (.string (txt ma.text)) (.slice M mf.len mc)) (ndC ma (.slice M mf.len mc)) (ma, mf) ∧ Below w.heap.size w (set6 w7 (w.heap.size + 1) (.string (txt ma.name)) (.string (txt ma.key)) (.int .i64 ma.kind) (.int .u64 (ma.num : Int)) (.string (txt ma.text)) (.slice M mf.len mc))) := .mk ⟨HQ.out.2.1.set6 _ _ _ _ _ _, (HQ.out.2.2.1.set6 (Nat.zero_le _) (by omega) _ _ _ _ _ _).after (by omega), HQ.out.2.2.2.trans (set6_below (Nat.le_succ _))⟩
   obtain ⟨y0, y1, y2, y3, y4, y5⟩ := cl6 HQ.out.1
   have fz0 : (w7).frozen? ⟨w.heap.size + 1, 0, none⟩ = false := HQ.out.2.1.frozen 0
   have fq0 := (HQ.out.2.1.cell 0).trans rfl
   have fz1 : (w7).frozen? ⟨w.heap.size + 1, 1, none⟩ = false := HQ.out.2.1.frozen 1
   have fq1 := (HQ.out.2.1.cell 1).trans rfl
   have fz2 : (w7).frozen? ⟨w.heap.size + 1, 2, none⟩ = false := HQ.out.2.1.frozen 2
   have fq2 := (HQ.out.2.1.cell 2).trans rfl
   have fz3 : (w7).frozen? ⟨w.heap.size + 1, 3, none⟩ = false := HQ.out.2.1.frozen 3
   have fq3 := (HQ.out.2.1.cell 3).trans rfl
   have fz4 : (w7).frozen? ⟨w.heap.size + 1, 4, none⟩ = false := HQ.out.2.1.frozen 4
   have fq4 := (HQ.out.2.1.cell 4).trans rfl
   have fz5 : (w7).frozen? ⟨w.heap.size + 1, 5, none⟩ = false := HQ.out.2.1.frozen 5
   have fq5 := (HQ.out.2.1.cell 5).trans rfl
   clear HR HQ hlt HRM
   go_wp2
   refine bodyPost_ret (res_ctt17 rfl _ _ (w.heap.size + 1) 27 _ (0, 0) _ rfl V9.out.1 Try.underlying27 rfl (by kernel_rfl)) rfl ?_
   rw [HR3.out]
   exact ⟨_, rfl, V9.out.2.1, V9.out.2.2⟩
theorem LieP.wide {b d B : Nat} {w : World} {cs : List Value} {x : Nd} (h : LieP b B w cs x) (hb : b ≤ d) : LieP d B w cs x := h.keep (fun _ _ => rfl) (fun g hg => hg.imp (fun h => Nat.lt_of_lt_of_le h hb) id)
theorem patC (W0 : World) : PatC W0 where
 one d n e cs ds w hd hx he hf hF hr _ _ := by
  refine (pone_any n e cs ds w (hx.under (Below.refl d w) (Nat.le_refl _) hd) (EdS.keep he (fun _ _ => rfl) (fun g hg => Nat.lt_of_lt_of_le hg hd)) (by omega) hF hr).mono ?_
  rintro r w' ⟨cs', h1, h2, h3⟩
  exact ⟨cs', h1, h2.wide (Nat.zero_le _), h3⟩
 apply d n l cs v w hd hx hv hF hr hl _ := by
  refine (papply_any n l cs v w (hx.under (Below.refl d w) (Nat.le_refl _) hd) hv hF hr hl).mono ?_
  rintro r w' ⟨cs', h1, h2, h3⟩
  exact ⟨cs', h1, h2.wide (Nat.zero_le _), h3⟩
end
end Go.Proofs.Ythmobcaidhgeaaa

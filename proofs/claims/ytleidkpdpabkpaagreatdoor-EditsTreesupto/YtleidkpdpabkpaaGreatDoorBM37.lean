/- PtvShw EdvB -/
import Derived.Test.YtleidkpdpabkpaaGreatDoorBM29
import Derived.Test.YtleidkpdpabkpaaGreatDoorBM18
import Derived.Test.YtleidkpdpabkpaaGreatDoorBM27
set_option linter.unusedSimpArgs false
set_option linter.unusedVariables false
set_option maxRecDepth 100000
set_option maxHeartbeats 8000000
namespace Go.Proofs.YtleidkpdpabkpaaGreatDoor
open Go.RowKit
theorem show_nil {l : List Stp} (h : l = []) : showX l = [47] := by subst h; rfl
theorem show_many {l : List Stp} (h : 6 < l.length) : showX l = [] := by
 unfold showX
 by_cases ha : l.all okS = true
 ·rw [if_pos ha, if_neg (fun e => by subst e; simp at h), if_pos h]
 ·rw [if_neg ha]
def ShT (l : List Stp) (j : Nat) (t : List UInt8) : Prop := t = catT (l.take j) ∧ (l.take j).all okS = true ∧ t.length ≤ 27 * j
theorem ShT.of {l : List Stp} {j : Nat} {t : List UInt8} (h : ShL l j t) : ShT l j t := h
theorem sh_end {l : List Stp} {t : List UInt8} (h : ShL l l.length t) (h0 : l ≠ []) (h6 : ¬ 6 < l.length) : showX l = t := by
 rcases h.end_ with ⟨h1, -, -⟩ | ⟨-, h2, -⟩ | ⟨-, -, h3⟩
 ·exact absurd h1 h0
 ·exact absurd h2 h6
 ·exact h3
theorem bld_blk {w w' : World} {g b : Nat} {cs : Array Value} (hk : Lib.OthersKept 5 (some b) w w') (h : Blk w g 52 cs) (hg : g ≠ b) : Blk w' g 52 cs :=
 hk g _ h (fun e => hg (by injection e)) (fun c fz e => by injection e with _ e2; revert e2; decide)
theorem show15_in (l : List Stp) (v : Value) (w : World) (hv : WayV w.heap.size w v l) (h0 : l ≠ []) (h6 : ¬ 6 < l.length) (hs : ∀ s ∈ l, s.1.length ≤ 9223372036854775807 ∧ s.2.length ≤ 9223372036854775807) :
  Calls Tryz.prog 41 #[v] w (ShowP l w) := by
 obtain ⟨A, c, rfl⟩ := hv.shape
 have HA := hHd hv
 have HLS := hHd hs
 have HEND : Hid (∀ t, ShL l l.length t → showX l = t) := hHd (fun t h => sh_end h h0 h6)
 have hp : 0 < l.length := List.length_pos_iff.2 h0
 have y0 : ((l.length : Int) == 0) = false := beq_eq_false_iff_ne.2 (by omega)
 have y1 : (l.length == 0) = false := beq_eq_false_iff_ne.2 (by omega)
 have y2 : ¬ (6 : Int) < (l.length : Int) := by omega
 have y3 : decide ((6 : Int) < (l.length : Int)) = false := decide_eq_false y2
 have y4 : decide (6 < l.length) = false := decide_eq_false h6
 have H6 := hHd h6
 have HBL : Hid (Bld (w.alloc (.cells #[.pointer none, .slice none 0 0] 117)) w.heap.size w.heap.size []) := hHd (Bld.fresh w)
 have HB0 : Hid (Below w.heap.size w (w.alloc (.cells #[.pointer none, .slice none 0 0] 117))) := hHd bAl
 have HZ0 : Hid (w.heap.size < (w.alloc (.cells #[.pointer none, .slice none 0 0] 117)).heap.size) := hHd (by simp)
 clear hv hs h0 h6
 go_enter Tryz.func41, Tryz.ntmps41
 go_wp2
 go_loopw [2, 5, 14] (fun _ _ i wr => ∃ (j : Nat) (t : List UInt8), j ≤ l.length ∧ i = .int .i64 (j : Int) ∧ Hid (ShL l j t) ∧ Hid (Bld wr w.heap.size w.heap.size t) ∧ Hid (Below w.heap.size w wr) ∧ Hid (w.heap.size < wr.heap.size)) (fun _ _ i _ => l.length - (intOf i).toNat)
 case atStart => exact ⟨0, [], Nat.zero_le _, rfl, hHd (ShL.zero l), HBL, HB0, HZ0⟩
 case round =>
  obtain ⟨j, t, hj, rfl, HT, HBD, HB, HZ⟩ := hrel
  have i1 : (0 : Int) ≤ (j : Int) := by omega
  by_cases hlt : j < l.length
  ·have i2 : (j : Int) < (l.length : Int) := by omega
   obtain ⟨⟨n, k⟩, hs⟩ : ∃ s, l[j]? = some s := ⟨_, List.getElem?_eq_getElem hlt⟩
   obtain ⟨g, o, rfl, -, -, hgl, q0, q1⟩ := (HA.out.under HB.out (Nat.le_refl _) (Nat.le_refl _)).at hs
   have hmem : (n, k) ∈ l := List.mem_of_getElem? hs
   have n1 : j < l.length := hlt
   have HBX : Hid (Blk (wr.alloc (.cells #[.string (txt n), .string (txt k)] 52)) wr.heap.size 52 #[.string (txt n), .string (txt k)]) := hHd (Blk.new _ _ _)
   have HALX : Hid (Below wr.heap.size wr (wr.alloc (.cells #[.string (txt n), .string (txt k)] 52))) := hHd bAl
   have HBDX : Hid (Bld (wr.alloc (.cells #[.string (txt n), .string (txt k)] 52)) w.heap.size w.heap.size t) := hHd (HBD.out.below HALX.out)
   have HWX : Hid (Below w.heap.size w (wr.alloc (.cells #[.string (txt n), .string (txt k)] 52))) := hHd (HB.out.trans (HALX.out.mono HB.out.size))
   have HSX : Hid (w.heap.size ≤ (wr.alloc (.cells #[.string (txt n), .string (txt k)] 52)).heap.size) := hHd (Nat.le_trans HB.out.size HALX.out.size)
   have c1 := hHd (ident_any n (HLS.out _ hmem).1 (wr.alloc (.cells #[.string (txt n), .string (txt k)] 52)))
   have c2 := hHd (ident_any k (HLS.out _ hmem).2 (wr.alloc (.cells #[.string (txt n), .string (txt k)] 52)))
   have x0 : (wr.alloc (.cells #[.string (txt n), .string (txt k)] 52)).cell? ⟨wr.heap.size, 0, none⟩ = some (.string (txt n)) := (HBX.out.cell 0).trans rfl
   have x1 : (wr.alloc (.cells #[.string (txt n), .string (txt k)] 52)).cell? ⟨wr.heap.size, 1, none⟩ = some (.string (txt k)) := (HBX.out.cell 1).trans rfl
   have tk : (txt k).toList = k := txt_toList k
   cases hn : identX n with
   | false =>
    have HF : Hid (showX l = []) := hHd (show_bad hmem (by unfold okS; simp [hn]))
    have HN := hHd hn
    clear hn hs hmem HT c2
    go_wp2_with fail
    refine c1.out.mono ?_
    rintro e w1 ⟨rfl, rfl⟩
    rw [HN.out]
    clear c1
    go_wp2
    go_ret
    exact ⟨by rw [HF.out]; rfl, HWX.out⟩
   | true =>
    have HN := hHd hn
    have hnl := ident_len hn
    have htl := HT.out.2.2
    have h6 := H6.out
    have sz2 : (txt n).size ≤ 12 := by rw [txt_size]; omega
    have cat1 : (⟨#[47]⟩ : ByteArray) ++ txt n = txt (47 :: n) := by rw [show (⟨#[47]⟩ : ByteArray) = txt [47] from rfl, txt_catS]; rfl
    have C1 : Hid (Calls Tryz.prog 74 #[.pointer (some ⟨w.heap.size, 0, none⟩), .string (txt (47 :: n))] (wr.alloc (.cells #[.string (txt n), .string (txt k)] 52)) fun e w' => (∃ m : Int, e = .returned (.tuple #[.int .i64 m, .nilIface])) ∧ BldP (wr.alloc (.cells #[.string (txt n), .string (txt k)] 52)) w.heap.size w.heap.size (t ++ 47 :: n) w') := hHd ((bstr_any w.heap.size w.heap.size t (47 :: n) _ HBDX.out (by rw [List.length_cons]; omega) HSX.out).mono fun e w' h => ⟨⟨_, h.1⟩, h.2⟩)
    have HGE : Hid (wr.heap.size ≠ w.heap.size) := hHd (Nat.ne_of_gt HZ.out)
    by_cases h0 : k = []
    ·have HT2 : Hid (ShL l (j + 1) (t ++ (47 :: n))) := hHd (by subst h0; have h := HT.out.step hs (by unfold okS; simp [hn]); rwa [stepT_no rfl] at h)
     have ke : txt k = (⟨#[]⟩ : ByteArray) := by rw [h0]; rfl
     rw [ke] at x1 q1 HBX HALX HBDX HWX HSX c1 x0 C1
     clear hn hs hmem hnl htl h6 c2 HT h0 ke tk
     go_wp2_with fail
     refine c1.out.mono ?_
     rintro e w1 ⟨rfl, rfl⟩
     rw [HN.out]
     clear c1
     go_wp2_with fail
     refine C1.out.mono ?_
     rintro e w1 ⟨⟨m, rfl⟩, hbd, hbb, hbk⟩
     have HBD1 := hHd hbd
     have HB1 : Hid (Below w.heap.size w w1) := hHd (HWX.out.trans hbb)
     have HZ1 : Hid (w.heap.size < w1.heap.size) := hHd (Nat.lt_of_lt_of_le HZ.out (Nat.le_trans HALX.out.size hbb.size))
     have HBX1 := hHd (bld_blk hbk HBX.out HGE.out)
     have z1 : w1.cell? ⟨wr.heap.size, 1, none⟩ = some (.string ⟨#[]⟩) := (HBX1.out.cell 1).trans rfl
     clear hbd hbb hbk C1
     go_wp2
     go_roundw
     case rel => exact ⟨j + 1, _, by omega, by go_num, HT2, HBD1, HB1, HZ1⟩
     case measure => simp [intOf]; omega
    ·have g1 : k.isEmpty = false := by simpa using h0
     have g2 : (k == []) = false := beq_eq_false_iff_ne.2 h0
     have g3 : (!k.isEmpty) = true := by rw [g1]; rfl
     have g4 : (k != []) = true := by unfold bne; rw [g2]; rfl
     cases hk : identX k with
     | false =>
      have HF : Hid (showX l = []) := hHd (show_bad hmem (by unfold okS; simp [hk, h0]))
      have HK := hHd hk
      clear hn hk hs hmem hnl htl h6 HT h0 C1
      go_wp2_with fail
      refine c1.out.mono ?_
      rintro e w1 ⟨rfl, rfl⟩
      rw [HN.out]
      clear c1
      go_wp2_with fail
      refine c2.out.mono ?_
      rintro e w1 ⟨rfl, rfl⟩
      rw [HK.out]
      clear c2
      go_wp2
      go_ret
      exact ⟨by rw [HF.out]; rfl, HWX.out⟩
     | true =>
      have HK := hHd hk
      have hkl := ident_len hk
      have HT2 : Hid (ShL l (j + 1) (t ++ (47 :: n) ++ (91 :: k ++ [93]))) := hHd (by have h := HT.out.step hs (by unfold okS; simp [hn, hk]); rw [stepT_key hk] at h; rwa [List.append_assoc])
      have sz3 : (txt k).size ≤ 12 := by rw [txt_size]; omega
      have cat2 : (⟨#[91]⟩ : ByteArray) ++ txt k ++ ⟨#[93]⟩ = txt (91 :: k ++ [93]) := by rw [show (⟨#[91]⟩ : ByteArray) = txt [91] from rfl, show (⟨#[93]⟩ : ByteArray) = txt [93] from rfl, txt_catS, txt_catS]; rfl
      have C2 : ∀ W, Bld W w.heap.size w.heap.size (t ++ 47 :: n) → w.heap.size ≤ W.heap.size → Hid (Calls Tryz.prog 74 #[.pointer (some ⟨w.heap.size, 0, none⟩), .string (txt (91 :: k ++ [93]))] W fun e w' => (∃ m : Int, e = .returned (.tuple #[.int .i64 m, .nilIface])) ∧ BldP W w.heap.size w.heap.size (t ++ 47 :: n ++ (91 :: k ++ [93])) w') := fun W h1 h2 => hHd ((bstr_any w.heap.size w.heap.size (t ++ 47 :: n) (91 :: k ++ [93]) _ h1 (by simp only [List.length_cons, List.length_append, List.length_nil]; omega) h2).mono fun e w' h => ⟨⟨_, h.1⟩, h.2⟩)
      clear hn hk hs hmem hnl hkl htl h6 HT h0
      go_wp2_with fail
      refine c1.out.mono ?_
      rintro e w1 ⟨rfl, rfl⟩
      rw [HN.out]
      clear c1
      go_wp2_with fail
      refine c2.out.mono ?_
      rintro e w1 ⟨rfl, rfl⟩
      rw [HK.out]
      clear c2
      go_wp2_with fail
      refine C1.out.mono ?_
      rintro e w1 ⟨⟨m, rfl⟩, hbd, hbb, hbk⟩
      have HB1 : Hid (Below w.heap.size w w1) := hHd (HWX.out.trans hbb)
      have HZ1 : Hid (w.heap.size < w1.heap.size) := hHd (Nat.lt_of_lt_of_le HZ.out (Nat.le_trans HALX.out.size hbb.size))
      have HBX1 := hHd (bld_blk hbk HBX.out HGE.out)
      have C3 := C2 w1 hbd HB1.out.size
      have z1 : w1.cell? ⟨wr.heap.size, 1, none⟩ = some (.string (txt k)) := (HBX1.out.cell 1).trans rfl
      clear hbd hbb hbk C1 C2
      go_wp2_with fail
      refine C3.out.mono ?_
      rintro e w2 ⟨⟨m2, rfl⟩, hbd, hbb, hbk⟩
      have HBD2 := hHd hbd
      have HB2 : Hid (Below w.heap.size w w2) := hHd (HB1.out.trans hbb)
      have HZ2 : Hid (w.heap.size < w2.heap.size) := hHd (Nat.lt_of_lt_of_le HZ1.out hbb.size)
      clear hbd hbb hbk C3
      go_wp2
      go_roundw
      case rel => exact ⟨j + 1, _, by omega, by go_num, HT2, HBD2, HB2, HZ2⟩
      case measure => simp [intOf]; omega
  ·obtain rfl : j = l.length := by omega
   have i2 : ¬ (l.length : Int) < (l.length : Int) := by omega
   have HF := hHd (HEND.out t HT.out)
   have C := hHd (bstring_any w.heap.size w.heap.size t wr HBD.out HB.out.size)
   clear HT hlt
   go_wp2_with fail
   refine C.out.mono ?_
   rintro e w1 ⟨rfl, hbd, hbb, hbk⟩
   have HB1 : Hid (Below w.heap.size w w1) := hHd (HB.out.trans hbb)
   clear hbd hbb hbk C
   go_wp2
   go_ret
   exact ⟨by rw [HF.out]; rfl, HB1.out⟩
theorem show15_any (l : List Stp) (v : Value) (w : World) (hv : WayV w.heap.size w v l) (hl : l.length ≤ 1000000) (hs : ∀ s ∈ l, s.1.length ≤ 9223372036854775807 ∧ s.2.length ≤ 9223372036854775807) :
  Calls Tryz.prog 41 #[v] w (ShowP l w) := by
 by_cases h0 : l = []
 ·obtain ⟨A, c, rfl⟩ := hv.shape
  have HF := hHd (show_nil h0)
  have y0 : ((l.length : Int) == 0) = true := beq_iff_eq.2 (by rw [h0]; rfl)
  have y1 : (l.length == 0) = true := beq_iff_eq.2 (by rw [h0]; rfl)
  clear hv hs h0
  go_enter Tryz.func41, Tryz.ntmps41
  go_wp2
  go_ret
  exact ⟨by rw [HF.out]; rfl, Below.refl _ _⟩
 by_cases h6 : 6 < l.length
 ·obtain ⟨A, c, rfl⟩ := hv.shape
  have HF := hHd (show_many h6)
  have y0 : ((l.length : Int) == 0) = false := beq_eq_false_iff_ne.2 (by omega)
  have y1 : (l.length == 0) = false := beq_eq_false_iff_ne.2 (by omega)
  have y2 : (6 : Int) < (l.length : Int) := by omega
  have y3 : decide ((6 : Int) < (l.length : Int)) = true := decide_eq_true y2
  have y4 : decide (6 < l.length) = true := decide_eq_true h6
  clear hv hs h0 h6
  go_enter Tryz.func41, Tryz.ntmps41
  go_wp2
  go_ret
  exact ⟨by rw [HF.out]; rfl, Below.refl _ _⟩
 exact show15_in l v w hv h0 h6 hs
section
attribute [local go_sem] Oper.semAt_some
theorem sound_any18 (xk : Int) (xw : List Stp) (xp : NdD) (xpf : NdF) (xo : NdD) (xof : NdF) (Aw : Option Addr) (cw : Nat) (An : Option Addr) (cn : Nat) (Ao : Option Addr) (co : Nat) (w : World)
  (hw : WayV w.heap.size w (.slice Aw xw.length cw) xw) (hn : RowT w.heap.size w (.slice An xpf.len cn) xpf) (ho : RowT w.heap.size w (.slice Ao xof.len co) xof) (hok : OkE18 ⟨xk, xw, (xp, xpf), (xo, xof)⟩) :
  Calls Tryz.prog 24 #[.agg #[.int .i64 xk, .slice Aw xw.length cw, .string (txt xp.name), .string (txt xp.key), .int .i64 xp.kind, .int .u64 (xp.num : Int), .string (txt xp.text), .slice An xpf.len cn, .string (txt xo.name), .string (txt xo.key), .int .i64 xo.kind, .int .u64 (xo.num : Int), .string (txt xo.text), .slice Ao xof.len co]] w (Ans9 (.bool (okE18 ⟨xk, xw, (xp, xpf), (xo, xof)⟩)) w) := by
 have HB1 : Hid (Below w.heap.size w (w.alloc (.cells #[.int .i64 xk, .slice Aw xw.length cw, .string (txt xp.name), .string (txt xp.key), .int .i64 xp.kind, .int .u64 (xp.num : Int), .string (txt xp.text), .slice An xpf.len cn, .string (txt xo.name), .string (txt xo.key), .int .i64 xo.kind, .int .u64 (xo.num : Int), .string (txt xo.text), .slice Ao xof.len co] 55))) := hHd bAl
 have HE1 : Hid (Blk (w.alloc (.cells #[.int .i64 xk, .slice Aw xw.length cw, .string (txt xp.name), .string (txt xp.key), .int .i64 xp.kind, .int .u64 (xp.num : Int), .string (txt xp.text), .slice An xpf.len cn, .string (txt xo.name), .string (txt xo.key), .int .i64 xo.kind, .int .u64 (xo.num : Int), .string (txt xo.text), .slice Ao xof.len co] 55)) w.heap.size 55 #[.int .i64 xk, .slice Aw xw.length cw, .string (txt xp.name), .string (txt xp.key), .int .i64 xp.kind, .int .u64 (xp.num : Int), .string (txt xp.text), .slice An xpf.len cn, .string (txt xo.name), .string (txt xo.key), .int .i64 xo.kind, .int .u64 (xo.num : Int), .string (txt xo.text), .slice Ao xof.len co]) := hHd (Blk.new _ _ _)
 have HLP : LieN w (ndC xp (.slice An xpf.len cn)) (xp, xpf) := LieB.make (a := xp) hn
 have HLO : LieN w (ndC xo (.slice Ao xof.len co)) (xo, xof) := LieB.make (a := xo) ho
 obtain ⟨kb, hkb⟩ : ∃ b, b = isK18 xk := ⟨_, rfl⟩
 obtain ⟨wl, hwl⟩ : ∃ b, b = decide (xw ≠ []) := ⟨_, rfl⟩
 obtain ⟨sh, hsh⟩ : ∃ b, b = decide (showX xw ≠ []) := ⟨_, rfl⟩
 obtain ⟨hnb, hhn⟩ : ∃ b, b = decide (xk ≠ 2) := ⟨_, rfl⟩
 obtain ⟨hob, hho⟩ : ∃ b, b = decide (xk ≠ 1) := ⟨_, rfl⟩
 obtain ⟨zp, hzp⟩ : ∃ b, b = decide ((xp, xpf) = noN) := ⟨_, rfl⟩
 obtain ⟨zo, hzo⟩ : ∃ b, b = decide ((xo, xof) = noN) := ⟨_, rfl⟩
 obtain ⟨sp, hsp⟩ : ∃ b, b = okN18 (xp, xpf) := ⟨_, rfl⟩
 obtain ⟨so, hso⟩ : ∃ b, b = okN18 (xo, xof) := ⟨_, rfl⟩
 have HKI : ∀ W, Hid (Calls Tryz.prog 51 #[.int .i64 xk] W (fun r w' => r = .returned (.bool kb) ∧ W = w')) := fun W => hHd (by rw [hkb]; exact kind_any18 xk W)
 have HHN : ∀ W, Hid (Calls Tryz.prog 42 #[.int .i64 xk] W (fun r w' => r = .returned (.bool hnb) ∧ W = w')) := fun W => hHd (by rw [hhn]; exact hasNode_any18 xk W)
 have HHO : ∀ W, Hid (Calls Tryz.prog 44 #[.int .i64 xk] W (fun r w' => r = .returned (.bool hob) ∧ W = w')) := fun W => hHd (by rw [hho]; exact hasOld_any18 xk W)
 have HSH : ∀ W, Below w.heap.size w W → Hid (Calls Tryz.prog 41 #[.slice Aw xw.length cw] W (ShowP xw W)) := fun W hW => hHd (show15_any xw _ W (WayV.below hw hW) hok.way hok.txts)
 have HZP : ∀ W, Hid (Calls Tryz.prog 52 #[.agg (cN xp (.slice An xpf.len cn))] W (Ans9 (.bool zp) W)) := fun W => hHd (by rw [hzp]; exact zero_any18 xp xpf An cn W)
 have HZO : ∀ W, Hid (Calls Tryz.prog 52 #[.agg (cN xo (.slice Ao xof.len co))] W (Ans9 (.bool zo) W)) := fun W => hHd (by rw [hzo]; exact zero_any18 xo xof Ao co W)
 have HSP : ∀ W, Below w.heap.size w W → Hid (Calls Tryz.prog 53 #[.agg (cN xp (.slice An xpf.len cn))] W (Ans9 (.bool sp) W)) := fun W hW => hHd (by rw [hsp]; exact snode_any18 (xp, xpf) _ W (HLP.below hW) hok.node)
 have HSO : ∀ W, Below w.heap.size w W → Hid (Calls Tryz.prog 53 #[.agg (cN xo (.slice Ao xof.len co))] W (Ans9 (.bool so) W)) := fun W hW => hHd (by rw [hso]; exact snode_any18 (xo, xof) _ W (HLO.below hW) hok.old)
 have HEQ : Hid (okE18 ⟨xk, xw, (xp, xpf), (xo, xof)⟩ = (kb && wl && sh && (hnb || zp) && (hob || zo) && sp && so)) := hHd (by unfold okE18; rw [hkb, hwl, hsh, hhn, hho, hzp, hzo, hsp, hso]; rfl)
 have tsh : (txt (showX xw)).toList = showX xw := txt_toList _
 have HWL := hHd hwl
 have HS := hHd hsh
 clear hw hn ho hok HLP HLO hkb hwl hsh hhn hho hzp hzo hsp hso
 go_enter Tryz.func24, Tryz.ntmps24
 go_upto_region 1 with (fail)
 revert HB1 HE1
 generalize (w.alloc (.cells #[.int .i64 xk, .slice Aw xw.length cw, .string (txt xp.name), .string (txt xp.key), .int .i64 xp.kind, .int .u64 (xp.num : Int), .string (txt xp.text), .slice An xpf.len cn, .string (txt xo.name), .string (txt xo.key), .int .i64 xo.kind, .int .u64 (xo.num : Int), .string (txt xo.text), .slice Ao xof.len co] 55)) = w1
 intro HB1 HE1
 have q0 := (HE1.out.cell 0).trans rfl
 go_wp2_with fail
 refine (HKI _).out.mono ?_
 rintro r w101 ⟨rfl, rfl⟩
 clear q0
 cases kb with
 | false =>
  go_wp2
  go_ret
  exact ⟨by rw [HEQ.out]; rfl, HB1.out⟩
 | true =>
  have q1 := (HE1.out.cell 1).trans rfl
  cases wl with
  | false =>
   have hx : xw = [] := by have h := HWL.out; simpa using h
   have l0 : ¬ (0 : Int) < (xw.length : Int) := by rw [hx]; simp
   have l1 : ¬ 0 < xw.length := by rw [hx]; simp
   clear hx
   go_wp2
   go_ret
   exact ⟨by rw [HEQ.out]; rfl, HB1.out⟩
  | true =>
   have hx : xw ≠ [] := by have h := HWL.out; simpa using h
   have l1 : 0 < xw.length := List.length_pos_iff.2 hx
   have l0 : (0 : Int) < (xw.length : Int) := by omega
   clear hx
   go_wp2_with fail
   refine (HSH _ HB1.out).out.mono ?_
   rintro r w2 ⟨rfl, hb⟩
   have HE2 := hHd (HE1.out.below hb HE1.out.lt)
   have HB2 := hHd (HB1.out.trans (hb.mono HB1.out.size))
   clear hb HE1 HB1 q1 HSH
   cases sh with
   | false =>
    have hx : showX xw = [] := by have h := HS.out; simpa using h
    have s0 : (showX xw == []) = true := by rw [hx]; rfl
    have s1 : (showX xw).isEmpty = true := by rw [hx]; rfl
    have s2 : (showX xw != []) = false := by rw [hx]; rfl
    clear hx
    go_wp2
    go_ret
    exact ⟨by rw [HEQ.out]; rfl, HB2.out⟩
   | true =>
    have hx : showX xw ≠ [] := by have h := HS.out; simpa using h
    have s0 : (showX xw == []) = false := by cases e : showX xw with | nil => exact absurd e hx | cons => rfl
    have s1 : (showX xw).isEmpty = false := by cases e : showX xw with | nil => exact absurd e hx | cons => rfl
    have s2 : (showX xw != []) = true := by simp [hx]
    clear hx
    have q0 := (HE2.out.cell 0).trans rfl
    go_wp2_with fail
    refine (HHN _).out.mono ?_
    rintro r w102 ⟨rfl, rfl⟩
    clear q0
    cases hnb with
    | true =>
     have q0 := (HE2.out.cell 0).trans rfl
     go_wp2_with fail
     refine (HHO _).out.mono ?_
     rintro r w102 ⟨rfl, rfl⟩
     clear q0
     cases hob with
     | true =>
      have q2 := (HE2.out.cell 2).trans rfl
      have q3 := (HE2.out.cell 3).trans rfl
      have q4 := (HE2.out.cell 4).trans rfl
      have q5 := (HE2.out.cell 5).trans rfl
      have q6 := (HE2.out.cell 6).trans rfl
      have q7 := (HE2.out.cell 7).trans rfl
      go_wp2_with fail
      refine (HSP _ HB2.out).out.mono ?_
      rintro r w3 ⟨rfl, hb⟩
      have HE3 := hHd (HE2.out.below hb HE2.out.lt)
      have HB3 := hHd (HB2.out.trans (hb.mono HB2.out.size))
      clear hb HE2 HB2 q2 q3 q4 q5 q6 q7
      cases sp with
      | false =>
       go_wp2
       go_ret
       exact ⟨by rw [HEQ.out]; rfl, HB3.out⟩
      | true =>
       have q8 := (HE3.out.cell 8).trans rfl
       have q9 := (HE3.out.cell 9).trans rfl
       have q10 := (HE3.out.cell 10).trans rfl
       have q11 := (HE3.out.cell 11).trans rfl
       have q12 := (HE3.out.cell 12).trans rfl
       have q13 := (HE3.out.cell 13).trans rfl
       go_wp2_with fail
       refine (HSO _ HB3.out).out.mono ?_
       rintro r w4 ⟨rfl, hb⟩
       have HE4 := hHd (HE3.out.below hb HE3.out.lt)
       have HB4 := hHd (HB3.out.trans (hb.mono HB3.out.size))
       clear hb HE3 HB3 q8 q9 q10 q11 q12 q13
       go_wp2
       go_ret
       exact ⟨by rw [HEQ.out]; rfl, HB4.out⟩
     | false =>
      have q8 := (HE2.out.cell 8).trans rfl
      have q9 := (HE2.out.cell 9).trans rfl
      have q10 := (HE2.out.cell 10).trans rfl
      have q11 := (HE2.out.cell 11).trans rfl
      have q12 := (HE2.out.cell 12).trans rfl
      have q13 := (HE2.out.cell 13).trans rfl
      go_wp2_with fail
      refine (HZO _).out.mono ?_
      rintro r w3 ⟨rfl, hb⟩
      have HE3 := hHd (HE2.out.below hb HE2.out.lt)
      have HB3 := hHd (HB2.out.trans (hb.mono HB2.out.size))
      clear hb HE2 HB2 q8 q9 q10 q11 q12 q13
      cases zo with
      | false =>
       go_wp2
       go_ret
       exact ⟨by rw [HEQ.out]; rfl, HB3.out⟩
      | true =>
       have q2 := (HE3.out.cell 2).trans rfl
       have q3 := (HE3.out.cell 3).trans rfl
       have q4 := (HE3.out.cell 4).trans rfl
       have q5 := (HE3.out.cell 5).trans rfl
       have q6 := (HE3.out.cell 6).trans rfl
       have q7 := (HE3.out.cell 7).trans rfl
       go_wp2_with fail
       refine (HSP _ HB3.out).out.mono ?_
       rintro r w4 ⟨rfl, hb⟩
       have HE4 := hHd (HE3.out.below hb HE3.out.lt)
       have HB4 := hHd (HB3.out.trans (hb.mono HB3.out.size))
       clear hb HE3 HB3 q2 q3 q4 q5 q6 q7
       cases sp with
       | false =>
        go_wp2
        go_ret
        exact ⟨by rw [HEQ.out]; rfl, HB4.out⟩
       | true =>
        have q8 := (HE4.out.cell 8).trans rfl
        have q9 := (HE4.out.cell 9).trans rfl
        have q10 := (HE4.out.cell 10).trans rfl
        have q11 := (HE4.out.cell 11).trans rfl
        have q12 := (HE4.out.cell 12).trans rfl
        have q13 := (HE4.out.cell 13).trans rfl
        go_wp2_with fail
        refine (HSO _ HB4.out).out.mono ?_
        rintro r w5 ⟨rfl, hb⟩
        have HE5 := hHd (HE4.out.below hb HE4.out.lt)
        have HB5 := hHd (HB4.out.trans (hb.mono HB4.out.size))
        clear hb HE4 HB4 q8 q9 q10 q11 q12 q13
        go_wp2
        go_ret
        exact ⟨by rw [HEQ.out]; rfl, HB5.out⟩
    | false =>
     have q2 := (HE2.out.cell 2).trans rfl
     have q3 := (HE2.out.cell 3).trans rfl
     have q4 := (HE2.out.cell 4).trans rfl
     have q5 := (HE2.out.cell 5).trans rfl
     have q6 := (HE2.out.cell 6).trans rfl
     have q7 := (HE2.out.cell 7).trans rfl
     go_wp2_with fail
     refine (HZP _).out.mono ?_
     rintro r w3 ⟨rfl, hb⟩
     have HE3 := hHd (HE2.out.below hb HE2.out.lt)
     have HB3 := hHd (HB2.out.trans (hb.mono HB2.out.size))
     clear hb HE2 HB2 q2 q3 q4 q5 q6 q7
     cases zp with
     | false =>
      go_wp2
      go_ret
      exact ⟨by rw [HEQ.out]; rfl, HB3.out⟩
     | true =>
      have q0 := (HE3.out.cell 0).trans rfl
      go_wp2_with fail
      refine (HHO _).out.mono ?_
      rintro r w103 ⟨rfl, rfl⟩
      clear q0
      cases hob with
      | true =>
       have q2 := (HE3.out.cell 2).trans rfl
       have q3 := (HE3.out.cell 3).trans rfl
       have q4 := (HE3.out.cell 4).trans rfl
       have q5 := (HE3.out.cell 5).trans rfl
       have q6 := (HE3.out.cell 6).trans rfl
       have q7 := (HE3.out.cell 7).trans rfl
       go_wp2_with fail
       refine (HSP _ HB3.out).out.mono ?_
       rintro r w4 ⟨rfl, hb⟩
       have HE4 := hHd (HE3.out.below hb HE3.out.lt)
       have HB4 := hHd (HB3.out.trans (hb.mono HB3.out.size))
       clear hb HE3 HB3 q2 q3 q4 q5 q6 q7
       cases sp with
       | false =>
        go_wp2
        go_ret
        exact ⟨by rw [HEQ.out]; rfl, HB4.out⟩
       | true =>
        have q8 := (HE4.out.cell 8).trans rfl
        have q9 := (HE4.out.cell 9).trans rfl
        have q10 := (HE4.out.cell 10).trans rfl
        have q11 := (HE4.out.cell 11).trans rfl
        have q12 := (HE4.out.cell 12).trans rfl
        have q13 := (HE4.out.cell 13).trans rfl
        go_wp2_with fail
        refine (HSO _ HB4.out).out.mono ?_
        rintro r w5 ⟨rfl, hb⟩
        have HE5 := hHd (HE4.out.below hb HE4.out.lt)
        have HB5 := hHd (HB4.out.trans (hb.mono HB4.out.size))
        clear hb HE4 HB4 q8 q9 q10 q11 q12 q13
        go_wp2
        go_ret
        exact ⟨by rw [HEQ.out]; rfl, HB5.out⟩
      | false =>
       have q8 := (HE3.out.cell 8).trans rfl
       have q9 := (HE3.out.cell 9).trans rfl
       have q10 := (HE3.out.cell 10).trans rfl
       have q11 := (HE3.out.cell 11).trans rfl
       have q12 := (HE3.out.cell 12).trans rfl
       have q13 := (HE3.out.cell 13).trans rfl
       go_wp2_with fail
       refine (HZO _).out.mono ?_
       rintro r w4 ⟨rfl, hb⟩
       have HE4 := hHd (HE3.out.below hb HE3.out.lt)
       have HB4 := hHd (HB3.out.trans (hb.mono HB3.out.size))
       clear hb HE3 HB3 q8 q9 q10 q11 q12 q13
       cases zo with
       | false =>
        go_wp2
        go_ret
        exact ⟨by rw [HEQ.out]; rfl, HB4.out⟩
       | true =>
        have q2 := (HE4.out.cell 2).trans rfl
        have q3 := (HE4.out.cell 3).trans rfl
        have q4 := (HE4.out.cell 4).trans rfl
        have q5 := (HE4.out.cell 5).trans rfl
        have q6 := (HE4.out.cell 6).trans rfl
        have q7 := (HE4.out.cell 7).trans rfl
        go_wp2_with fail
        refine (HSP _ HB4.out).out.mono ?_
        rintro r w5 ⟨rfl, hb⟩
        have HE5 := hHd (HE4.out.below hb HE4.out.lt)
        have HB5 := hHd (HB4.out.trans (hb.mono HB4.out.size))
        clear hb HE4 HB4 q2 q3 q4 q5 q6 q7
        cases sp with
        | false =>
         go_wp2
         go_ret
         exact ⟨by rw [HEQ.out]; rfl, HB5.out⟩
        | true =>
         have q8 := (HE5.out.cell 8).trans rfl
         have q9 := (HE5.out.cell 9).trans rfl
         have q10 := (HE5.out.cell 10).trans rfl
         have q11 := (HE5.out.cell 11).trans rfl
         have q12 := (HE5.out.cell 12).trans rfl
         have q13 := (HE5.out.cell 13).trans rfl
         go_wp2_with fail
         refine (HSO _ HB5.out).out.mono ?_
         rintro r w6 ⟨rfl, hb⟩
         have HE6 := hHd (HE5.out.below hb HE5.out.lt)
         have HB6 := hHd (HB5.out.trans (hb.mono HB5.out.size))
         clear hb HE5 HB5 q8 q9 q10 q11 q12 q13
         go_wp2
         go_ret
         exact ⟨by rw [HEQ.out]; rfl, HB6.out⟩
theorem check_any18 (l : List EdD) (v : Value) (w : World) (hv : EdsV (Bel w) w v l) (hl : l.length ≤ 1000000) (hok : ∀ e ∈ l, OkE18 e) :
  Calls Tryz.prog 11 #[v] w (Ans9 (.bool (l.all okE18)) w) := by
 obtain ⟨B, d, rfl⟩ := hv.shape
 have HV := hHd hv
 have HF := hHd hok
 have HL := hHd hl
 have HB0 : Hid (Below w.heap.size w w) := hHd (Below.refl _ _)
 clear hv hok hl
 go_enter Tryz.func11, Tryz.ntmps11
 go_wp2
 go_loopw [7] (fun i wr => ∃ j : Nat, j ≤ l.length ∧ i = .int .i64 (j : Int) ∧ Hid ((l.take j).all okE18 = true) ∧ Hid (Below w.heap.size w wr)) (fun i _ => l.length - (intOf i).toNat)
 case atStart => exact ⟨0, Nat.zero_le _, rfl, hHd rfl, HB0⟩
 case round =>
  clear HB0
  obtain ⟨j, hj, rfl, HR, HB⟩ := hrel
  obtain ⟨w7, hw7⟩ : ∃ w7, w7 = wr := ⟨_, rfl⟩
  subst hw7
  have i1 : (0 : Int) ≤ (j : Int) := by omega
  by_cases hlt : j < l.length
  ·have i2 : (j : Int) < (l.length : Int) := by omega
   have i3 : (l.length : Int) ≤ 1000000 := by have := HL.out; omega
   obtain ⟨x, hx⟩ : ∃ x, l[j]? = some x := ⟨_, List.getElem?_eq_getElem hlt⟩
   have hokx := HF.out x (List.mem_of_getElem? hx)
   obtain ⟨g9, o9, Aw, cw, An, cn, Ao, co, rfl, -, -, hg9, hw9, hn9, ho9, hcl⟩ := HV.out.at hx
   obtain ⟨xk, xw, ⟨xp, xpf⟩, ⟨xo, xof⟩⟩ := x
   simp only at hw9 hn9 ho9 hcl
   have HNO : Hid (okE18 ⟨xk, xw, (xp, xpf), (xo, xof)⟩ = false → l.all okE18 = false) := hHd (fun h => all_no18 hx h)
   have HYE : Hid (okE18 ⟨xk, xw, (xp, xpf), (xo, xof)⟩ = true → (l.take (j + 1)).all okE18 = true) := hHd (fun h => all_take18 hx HR.out h)
   have hb8 : Below w7.heap.size w7 (w7.alloc (.cells #[.int .i64 xk, .slice Aw xw.length cw, .string (txt xp.name), .string (txt xp.key), .int .i64 xp.kind, .int .u64 (xp.num : Int), .string (txt xp.text), .slice An xpf.len cn, .string (txt xo.name), .string (txt xo.key), .int .i64 xo.kind, .int .u64 (xo.num : Int), .string (txt xo.text), .slice Ao xof.len co] 55)) := bAl
   have HB8 : Hid (Below w.heap.size w (w7.alloc (.cells #[.int .i64 xk, .slice Aw xw.length cw, .string (txt xp.name), .string (txt xp.key), .int .i64 xp.kind, .int .u64 (xp.num : Int), .string (txt xp.text), .slice An xpf.len cn, .string (txt xo.name), .string (txt xo.key), .int .i64 xo.kind, .int .u64 (xo.num : Int), .string (txt xo.text), .slice Ao xof.len co] 55))) := hHd (HB.out.trans (hb8.mono HB.out.size))
   have HE8 : Hid (Blk (w7.alloc (.cells #[.int .i64 xk, .slice Aw xw.length cw, .string (txt xp.name), .string (txt xp.key), .int .i64 xp.kind, .int .u64 (xp.num : Int), .string (txt xp.text), .slice An xpf.len cn, .string (txt xo.name), .string (txt xo.key), .int .i64 xo.kind, .int .u64 (xo.num : Int), .string (txt xo.text), .slice Ao xof.len co] 55)) w7.heap.size 55 #[.int .i64 xk, .slice Aw xw.length cw, .string (txt xp.name), .string (txt xp.key), .int .i64 xp.kind, .int .u64 (xp.num : Int), .string (txt xp.text), .slice An xpf.len cn, .string (txt xo.name), .string (txt xo.key), .int .i64 xo.kind, .int .u64 (xo.num : Int), .string (txt xo.text), .slice Ao xof.len co]) := hHd (Blk.new _ _ _)
   have hn8 : RowT w.heap.size w (.slice An xpf.len cn) xpf := hn9
   have ho8 : RowT w.heap.size w (.slice Ao xof.len co) xof := ho9
   obtain ⟨ok, hok⟩ : ∃ b, b = okE18 ⟨xk, xw, (xp, xpf), (xo, xof)⟩ := ⟨_, rfl⟩
   have HSO : ∀ W, Below w.heap.size w W → Hid (Calls Tryz.prog 24 #[.agg #[.int .i64 xk, .slice Aw xw.length cw, .string (txt xp.name), .string (txt xp.key), .int .i64 xp.kind, .int .u64 (xp.num : Int), .string (txt xp.text), .slice An xpf.len cn, .string (txt xo.name), .string (txt xo.key), .int .i64 xo.kind, .int .u64 (xo.num : Int), .string (txt xo.text), .slice Ao xof.len co]] W (Ans9 (.bool ok) W)) := fun W hW => hHd (by
    rw [hok]
    exact sound_any18 xk xw xp xpf xo xof Aw cw An cn Ao co W (WayV.below hw9 hW) (hn8.under hW (Nat.le_refl _) hW.size) (ho8.under hW (Nat.le_refl _) hW.size) hokx)
   rw [← hok] at HNO HYE
   have HCL : ∀ i u, (edC xk (.slice Aw xw.length cw) xp (.slice An xpf.len cn) xo (.slice Ao xof.len co))[i]? = some u → w7.cell? ⟨g9, o9 + j * 14 + i, none⟩ = some u := fun i u hu => (HB.out.cell (p := ⟨g9, o9 + j * 14 + i, none⟩) hg9).trans (hcl i u hu)
   have p0 : w7.cell? ⟨g9, o9 + j * 14, none⟩ = _ := HCL 0 _ rfl
   have p1 := HCL 1 _ rfl
   have p2 := HCL 2 _ rfl
   have p3 := HCL 3 _ rfl
   have p4 := HCL 4 _ rfl
   have p5 := HCL 5 _ rfl
   have p6 := HCL 6 _ rfl
   have p7 := HCL 7 _ rfl
   have p8 := HCL 8 _ rfl
   have p9 := HCL 9 _ rfl
   have p10 := HCL 10 _ rfl
   have p11 := HCL 11 _ rfl
   have p12 := HCL 12 _ rfl
   have p13 := HCL 13 _ rfl
   have n0 : j < l.length := hlt
   clear hw9 hn8 ho8 hn9 ho9 hcl hx hg9 hlt hb8 HCL hokx hok
   go_upto_region 4 with (fail)
   clear p0 p1 p2 p3 p4 p5 p6 p7 p8 p9 p10 p11 p12 p13
   revert HB8 HE8
   generalize (w7.alloc (.cells #[.int .i64 xk, .slice Aw xw.length cw, .string (txt xp.name), .string (txt xp.key), .int .i64 xp.kind, .int .u64 (xp.num : Int), .string (txt xp.text), .slice An xpf.len cn, .string (txt xo.name), .string (txt xo.key), .int .i64 xo.kind, .int .u64 (xo.num : Int), .string (txt xo.text), .slice Ao xof.len co] 55)) = w8
   intro HB8 HE8
   go_wp2_with (first | (refine wpList_load_row rfl 55 (.tmp 4) rfl w7.heap.size (by rfl) 55 _ (0, 0) _ HE8.out Tryz.underlying55 rfl (by kernel_rfl) ?_) | (refine wpList_load_row_on (by rfl) 55 (.tmp 4) rfl w7.heap.size (by rfl) 55 _ (0, 0) _ HE8.out Tryz.underlying55 rfl (by kernel_rfl) ?_))
   refine (HSO _ HB8.out).out.mono ?_
   rintro r w9 ⟨rfl, hb⟩
   have HB9 := hHd (HB8.out.trans (hb.mono HB8.out.size))
   clear hb HE8 HB8 HSO
   cases ok with
   | false =>
    have HX : Hid (l.all okE18 = false) := hHd (HNO.out rfl)
    clear HNO HYE
    go_wp2
    go_ret
    exact ⟨by rw [HX.out]; rfl, HB9.out⟩
   | true =>
    have HR2 : Hid ((l.take (j + 1)).all okE18 = true) := hHd (HYE.out rfl)
    clear HNO HYE
    go_wp2
    go_roundw
    case rel => exact ⟨j + 1, by omega, by go_num, HR2, HB9⟩
    case measure => simp [intOf]; omega
  ·obtain rfl : j = l.length := by omega
   have i2 : ¬ (l.length : Int) < (l.length : Int) := by omega
   have HX : Hid (l.all okE18 = true) := hHd (by have h := HR.out; rwa [List.take_length] at h)
   clear hlt HR
   go_wp2
   go_ret
   exact ⟨by rw [HX.out]; rfl, HB.out⟩
end
end Go.Proofs.YtleidkpdpabkpaaGreatDoor

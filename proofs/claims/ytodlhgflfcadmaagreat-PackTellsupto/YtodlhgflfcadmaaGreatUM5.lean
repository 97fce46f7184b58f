/- StvIdt TreRefA TreRefB Drawn TreRefC TreBox -/
import Derived.Test.YtodlhgflfcadmaaGreatUM3
import Derived.Deep.RegionHeld3
set_option linter.unusedSimpArgs false
set_option linter.unusedVariables false
set_option maxRecDepth 100000
set_option maxHeartbeats 8000000
namespace Go.Proofs.YtodlhgflfcadmaaGreat
open Go.RowKit
def SmP (c : UInt8) (w : World) (r : Ending) (w' : World) : Prop := r = .returned (.bool (smB c)) ∧ w = w'
theorem letter_any (c : UInt8) (w : World) : Calls Tryz.prog 124 #[.int .u8 (c.toNat : Int)] w (SmP c w) := by
 rcases sm_cases c with ⟨hb, g1, g2⟩ | ⟨hb, g⟩
 ·have HB := hHd hb
  clear hb
  obtain ⟨m, hm⟩ : ∃ m, m = c.toNat := ⟨_, rfl⟩
  rw [← hm] at g1 g2 ⊢
  clear hm
  go_enter Tryz.func124, Tryz.ntmps124
  go_wp2
  go_ret
  exact ⟨by rw [HB.out]; rfl, rfl⟩
 ·have HB := hHd hb
  clear hb
  obtain ⟨m, hm⟩ : ∃ m, m = c.toNat := ⟨_, rfl⟩
  rw [← hm] at g ⊢
  clear hm
  rcases g with g | ⟨g1, g2⟩
  all_goals
   go_enter Tryz.func124, Tryz.ntmps124
   go_wp2
   go_ret
   exact ⟨by rw [HB.out]; rfl, rfl⟩
theorem nm_ways (c : UInt8) (h : smB c = false) : (nmB c = true ∧ ((48 ≤ (c.toNat : Int) ∧ (c.toNat : Int) ≤ 57) ∨ (¬ 48 ≤ (c.toNat : Int) ∧ ((c.toNat : Int) == 45) = true))) ∨
  (nmB c = false ∧ ((c.toNat : Int) == 45) = false ∧ (¬ 48 ≤ (c.toNat : Int) ∨ (48 ≤ (c.toNat : Int) ∧ ¬ (c.toNat : Int) ≤ 57))) := by
 rcases nm_cases h with ⟨h1, h2⟩ | ⟨h1, h2, h3⟩
 ·refine .inl ⟨h1, ?_⟩
  rcases h2 with h2 | ⟨h2, h3, h4⟩
  ·have : (c.toNat : Int) = 45 := beq_iff_eq.1 h2
   exact .inr ⟨by omega, h2⟩
  ·exact .inl ⟨by omega, by omega⟩
 ·refine .inr ⟨h1, h2, ?_⟩
  rcases h3 with h3 | ⟨h3, h4⟩
  ·exact .inl (by omega)
  ·exact .inr ⟨by omega, by omega⟩
def NmP (c : UInt8) (w : World) (r : Ending) (w' : World) : Prop := r = .returned (.bool (nmB c)) ∧ w = w'
theorem inName_any (c : UInt8) (w : World) : Calls Tryz.prog 125 #[.int .u8 (c.toNat : Int)] w (NmP c w) := by
 have HL := hHd (letter_any c w)
 cases hb : smB c with
 | true =>
  have HN := hHd (sm_nm hb)
  have HS := hHd hb
  clear hb
  go_enter Tryz.func125, Tryz.ntmps125
  go_wp2_with fail
  refine HL.out.mono ?_
  rintro r w1 ⟨rfl, rfl⟩
  rw [HS.out]
  clear HL
  go_wp2
  go_ret
  exact ⟨by rw [HN.out]; rfl, rfl⟩
 | false =>
  have HS := hHd hb
  have g := nm_ways c hb
  clear hb
  have HL : Hid (Calls Tryz.prog 124 #[.int .u8 (c.toNat : Int)] w fun r w' => r = .returned (.bool false) ∧ w = w') := hHd (HL.out.mono fun r w' h => ⟨by rw [h.1, HS.out], h.2⟩)
  have HQ : Hid (∀ b, nmB c = b → NmP c w (.returned (.bool b)) w) := hHd (fun b e => ⟨by rw [e], rfl⟩)
  rcases g with ⟨h1, g⟩ | ⟨h1, g0, g⟩
  ·have HN := hHd h1
   clear h1 HS
   generalize c.toNat = m at g HL
   rcases g with ⟨g1, g2⟩ | ⟨g1, g2⟩
   all_goals
    go_enter Tryz.func125, Tryz.ntmps125
    go_wp2_with fail
    refine HL.out.mono ?_
    rintro r w1 ⟨rfl, rfl⟩
    clear HL
    go_wp2
    go_ret
    exact HQ.out _ HN.out
  ·have HN := hHd h1
   clear h1 HS
   generalize c.toNat = m at g g0 HL
   rcases g with g1 | ⟨g1, g2⟩
   ·go_enter Tryz.func125, Tryz.ntmps125
    go_wp2_with fail
    refine HL.out.mono ?_
    rintro r w1 ⟨rfl, rfl⟩
    clear HL
    go_wp2
    go_ret
    exact HQ.out _ HN.out
   ·go_enter Tryz.func125, Tryz.ntmps125
    go_wp2_with fail
    refine HL.out.mono ?_
    rintro r w1 ⟨rfl, rfl⟩
    clear HL
    go_wp2
    go_ret
    exact HQ.out _ (HN.out.trans (decide_eq_false (by omega)).symm)
def IdentP (s : List UInt8) (w : World) (r : Ending) (w' : World) : Prop := r = .returned (.bool (identX s)) ∧ w = w'
def nmL (s : List UInt8) (k : Nat) : Prop := ∀ j c, j < k → s[j]? = some c → nmB c = true
theorem nmL_step {s : List UInt8} {k : Nat} {c : UInt8} (hc : s[k]? = some c) (h : nmL s k) (h1 : nmB c = true) : nmL s (k + 1) := by
 intro j d hj hd
 by_cases e : j = k
 ·subst e
  rw [hc] at hd
  injection hd with hd
  rw [← hd]; exact h1
 ·exact h j d (by omega) hd
theorem nmL_all {c : UInt8} {r : List UInt8} (h1 : smB c = true) (h2 : (c :: r).length ≤ 12) (h : nmL (c :: r) (c :: r).length) : identX (c :: r) = true := by
 rw [idL_all ⟨fun d _ hd => by simp at hd; rw [← hd]; exact h1, h⟩]
 simp
 simpa using h2
theorem ident_bad {s : List UInt8} {k : Nat} {c : UInt8} (hc : s[k]? = some c) (h : nmB c = false) : identX s = false :=
 id_bad hc (by cases hb : smB c with | false => rfl | true => rw [sm_nm hb] at h; cases h) (.inr h)
theorem ident_any (s : List UInt8) (hs : s.length ≤ 9223372036854775807) (w : World) : Calls Tryz.prog 117 #[.string (txt s)] w (IdentP s w) := by
 cases s with
 | nil =>
  have e0 : txt [] = (⟨#[]⟩ : ByteArray) := rfl
  rw [e0]
  go_enter Tryz.func117, Tryz.ntmps117
  go_wp2
  go_ret
  exact ⟨rfl, rfl⟩
 | cons c r =>
 have hsz := txt_size (c :: r)
 have ts : (txt (c :: r)).toList = c :: r := txt_toList _
 have hE : (c :: r).isEmpty = false := rfl
 have hN : ((c :: r) == []) = false := rfl
 by_cases h12 : (c :: r).length ≤ 12
 ·have i12 : ¬ ((12 : Int) < ((c :: r).length : Int)) := by omega
  have hin : 0 < (txt (c :: r)).size := by rw [hsz]; simp
  have hix : (((txt (c :: r))[0]'hin).toNat : Int) = (c.toNat : Int) := by rw [txt_get (c :: r) 0 (by simp) hin]; rfl
  have HL := hHd (letter_any c w)
  cases hb : smB c with
  | false =>
   have HV : Hid (identX (c :: r) = false) := hHd (ident_no hb r)
   have HS := hHd hb
   clear hb
   generalize c :: r = s at *
   go_enter Tryz.func117, Tryz.ntmps117
   go_wp2_with fail
   refine HL.out.mono ?_
   rintro e w1 ⟨rfl, rfl⟩
   rw [HS.out]
   clear HL
   go_wp2
   go_ret
   exact ⟨by rw [HV.out]; rfl, rfl⟩
  | true =>
   have HV : Hid (nmL (c :: r) (c :: r).length → identX (c :: r) = true) := hHd (fun h => nmL_all hb h12 h)
   have HS := hHd hb
   clear hb
   have hpos : 0 < (c :: r).length := by simp
   generalize c :: r = s at *
   go_enter Tryz.func117, Tryz.ntmps117
   go_wp2_with fail
   refine HL.out.mono ?_
   rintro e w1 ⟨rfl, rfl⟩
   rw [HS.out]
   clear HL hix
   go_wp2
   go_loop [3, 19] (fun v i => ∃ k : Nat, k ≤ s.length ∧ i = .int .i64 (k : Int) ∧ Hid (nmL s k)) (fun _ i => s.length - (intOf i).toNat)
   case atStart => exact ⟨0, by omega, rfl, hHd (fun j c h => by omega)⟩
   case round =>
    obtain ⟨k, hk, rfl, HK⟩ := hrel
    by_cases h1 : k < s.length
    ·have d1 : (k : Int) < (s.length : Int) := by omega
     obtain ⟨d, hd⟩ : ∃ d, s[k]? = some d := ⟨_, List.getElem?_eq_getElem h1⟩
     have hink : k < (txt s).size := by rw [hsz]; exact h1
     have hixk : (((txt s)[k]'hink).toNat : Int) = (d.toNat : Int) := by rw [txt_get s k h1 hink]; rw [List.getElem?_eq_getElem h1] at hd; injection hd with hd; rw [hd]
     have HN := hHd (inName_any d w)
     cases hn : nmB d with
     | true =>
      have HK2 := hHd (nmL_step hd HK.out hn)
      have HN2 := hHd hn
      clear hd hn HK
      go_wp2_with fail
      refine HN.out.mono ?_
      rintro e w1 ⟨rfl, rfl⟩
      rw [HN2.out]
      clear HN
      go_wp2
      go_round
      case rel => exact ⟨k + 1, by omega, by go_num, HK2⟩
      case measure => simp [intOf]; omega
     | false =>
      have HF : Hid (identX s = false) := hHd (ident_bad hd hn)
      have HN2 := hHd hn
      clear hd hn HK
      go_wp2_with fail
      refine HN.out.mono ?_
      rintro e w1 ⟨rfl, rfl⟩
      rw [HN2.out]
      clear HN
      go_wp2
      go_ret
      exact ⟨by rw [HF.out]; rfl, rfl⟩
    ·obtain rfl : k = s.length := by omega
     have HF : Hid (identX s = true) := hHd (HV.out HK.out)
     clear HK h1
     go_wp2
     go_ret
     exact ⟨by rw [HF.out]; rfl, rfl⟩
 ·have i12 : (12 : Int) < ((c :: r).length : Int) := by omega
  have HV : Hid (identX (c :: r) = false) := hHd (by
   cases h : identX (c :: r) with
   | false => rfl
   | true => exact absurd (ident_len h).2 h12)
  clear h12
  generalize c :: r = s at *
  go_enter Tryz.func117, Tryz.ntmps117
  go_wp2
  go_ret
  exact ⟨by rw [HV.out]; rfl, rfl⟩
theorem Ans9.bool {b c : Bool} {w : World} {r : Ending} {w' : World} (h : Ans9 (.bool b) w r w') (e : b = c) : Ans9 (.bool c) w r w' := by subst e; exact h
theorem rless_name (a b : NdD) (A B : Option Addr) (m n c d : Nat) (w : World) (h1 : Go.Op.bytesLess a.name b.name = true) :
  Calls Tryz.prog 60 #[.agg (cN a (.slice A m c)), .agg (cN b (.slice B n d))] w (Ans9 (.bool true) w) := by
 have hB : Below w.heap.size w ((w.alloc (.cells (cN a (.slice A m c)) 27)).alloc (.cells (cN b (.slice B n d)) 27)) := bAl.alloc (by simp) _
 have HB := hHd hB
 have t1 : (txt a.name).toList = a.name := txt_toList _
 have t2 : (txt b.name).toList = b.name := txt_toList _
 have t3 : (txt a.key).toList = a.key := txt_toList _
 have t4 : (txt b.key).toList = b.key := txt_toList _
 clear hB
 go_enter Tryz.func60, Tryz.ntmps60
 go_wp2
 go_ret
 exact ⟨rfl, HB.out⟩
theorem rless_key (a b : NdD) (A B : Option Addr) (m n c d : Nat) (w : World) (h1 : Go.Op.bytesLess a.name b.name = false) (h2 : (a.name == b.name) = true) (h3 : Go.Op.bytesLess a.key b.key = true) :
  Calls Tryz.prog 60 #[.agg (cN a (.slice A m c)), .agg (cN b (.slice B n d))] w (Ans9 (.bool true) w) := by
 have hB : Below w.heap.size w ((w.alloc (.cells (cN a (.slice A m c)) 27)).alloc (.cells (cN b (.slice B n d)) 27)) := bAl.alloc (by simp) _
 have HB := hHd hB
 have t1 : (txt a.name).toList = a.name := txt_toList _
 have t2 : (txt b.name).toList = b.name := txt_toList _
 have t3 : (txt a.key).toList = a.key := txt_toList _
 have t4 : (txt b.key).toList = b.key := txt_toList _
 clear hB
 go_enter Tryz.func60, Tryz.ntmps60
 go_wp2
 go_ret
 exact ⟨rfl, HB.out⟩
theorem rless_not (a b : NdD) (A B : Option Addr) (m n c d : Nat) (w : World) (h1 : Go.Op.bytesLess a.name b.name = false) (h2 : (a.name == b.name) = true) (h3 : Go.Op.bytesLess a.key b.key = false) :
  Calls Tryz.prog 60 #[.agg (cN a (.slice A m c)), .agg (cN b (.slice B n d))] w (Ans9 (.bool false) w) := by
 have hB : Below w.heap.size w ((w.alloc (.cells (cN a (.slice A m c)) 27)).alloc (.cells (cN b (.slice B n d)) 27)) := bAl.alloc (by simp) _
 have HB := hHd hB
 have t1 : (txt a.name).toList = a.name := txt_toList _
 have t2 : (txt b.name).toList = b.name := txt_toList _
 have t3 : (txt a.key).toList = a.key := txt_toList _
 have t4 : (txt b.key).toList = b.key := txt_toList _
 clear hB
 go_enter Tryz.func60, Tryz.ntmps60
 go_wp2
 go_ret
 exact ⟨rfl, HB.out⟩
theorem rless_no (a b : NdD) (A B : Option Addr) (m n c d : Nat) (w : World) (h1 : Go.Op.bytesLess a.name b.name = false) (h2 : (a.name == b.name) = false) :
  Calls Tryz.prog 60 #[.agg (cN a (.slice A m c)), .agg (cN b (.slice B n d))] w (Ans9 (.bool false) w) := by
 have hB : Below w.heap.size w ((w.alloc (.cells (cN a (.slice A m c)) 27)).alloc (.cells (cN b (.slice B n d)) 27)) := bAl.alloc (by simp) _
 have HB := hHd hB
 have t1 : (txt a.name).toList = a.name := txt_toList _
 have t2 : (txt b.name).toList = b.name := txt_toList _
 have t3 : (txt a.key).toList = a.key := txt_toList _
 have t4 : (txt b.key).toList = b.key := txt_toList _
 clear hB
 go_enter Tryz.func60, Tryz.ntmps60
 go_wp2
 go_ret
 exact ⟨rfl, HB.out⟩
theorem rless_any (x y : Nd) (cs ds : List Value) (w : World) (hx : LieN w cs x) (hy : LieN w ds y) :
  Calls Tryz.prog 60 #[.agg cs.toArray, .agg ds.toArray] w (Ans9 (.bool (lessX x.1 y.1)) w) := by
 obtain ⟨A, c, rfl, -⟩ := hx.shape
 obtain ⟨B, d, rfl, -⟩ := hy.shape
 cases h1 : Go.Op.bytesLess x.1.name y.1.name with
 | true => exact (rless_name x.1 y.1 _ _ _ _ _ _ w h1).mono fun _ _ h => h.bool (by simp [lessX, lessS, stp, ltY, h1])
 | false =>
  by_cases h2 : x.1.name = y.1.name
  ·cases h3 : Go.Op.bytesLess x.1.key y.1.key with
   | true => exact (rless_key x.1 y.1 _ _ _ _ _ _ w h1 (beq_iff_eq.2 h2) h3).mono fun _ _ h => h.bool (by simp [lessX, lessS, stp, ltY, h1, h2, h3])
   | false => exact (rless_not x.1 y.1 _ _ _ _ _ _ w h1 (beq_iff_eq.2 h2) h3).mono fun _ _ h => h.bool (by rw [h2] at h1; simp [lessX, lessS, stp, ltY, h1, h2, h3])
  ·exact (rless_no x.1 y.1 _ _ _ _ _ _ w h1 (beq_eq_false_iff_ne.2 h2)).mono fun _ _ h => h.bool (by simp [lessX, lessS, stp, ltY, h1, h2])
theorem rfindn_any (s : Stp) (x : Nd) (cs : List Value) (w : World) (hx : LieN w cs x) (hl : x.2.len ≤ 1000000) :
  Calls Tryz.prog 111 #[.agg cs.toArray, .agg #[.string (txt s.1), .string (txt s.2)]] w (Ans9 (.int .i64 (findIx s x.2)) w) := by
 obtain ⟨A, c, rfl, hk⟩ := hx.shape
 obtain ⟨a, f⟩ := x
 have hB : Below w.heap.size w ((w.alloc (.cells (cN a (.slice A f.len c)) 27)).alloc (.cells #[.string (txt s.1), .string (txt s.2)] 125)) := bAl.alloc (by simp) _
 have HB := hHd hB
 have tn : (txt s.1).toList = s.1 := txt_toList _
 have tk : (txt s.2).toList = s.2 := txt_toList _
 have HK : Hid (RowT w.heap.size w (.slice A f.len c) f) := hHd hk
 have HLL : Hid (f.len ≤ 1000000) := hHd hl
 clear hk hx hB hl
 go_enter Tryz.func111, Tryz.ntmps111
 go_wp2
 go_loopw [5] (fun i wr => ∃ k : Nat, k ≤ f.len ∧ i = .int .i64 (k : Int) ∧ Hid (∀ j, j < k → ∀ y, f.get? j = some y → stp y.1 ≠ s) ∧ Blk wr w.heap.size 27 (cN a (.slice A f.len c)) ∧ Blk wr (w.heap.size + 1) 125 #[.string (txt s.1), .string (txt s.2)] ∧ Below w.heap.size w wr) (fun i _ => f.len - (intOf i).toNat)
 case atStart =>
  have hb2 : Blk ((w.alloc (.cells (cN a (.slice A f.len c)) 27)).alloc (.cells #[.string (txt s.1), .string (txt s.2)] 125)) (w.heap.size + 1) 125 #[.string (txt s.1), .string (txt s.2)] := by
   have h := Blk.new (w.alloc (.cells (cN a (.slice A f.len c)) 27)) 125 #[.string (txt s.1), .string (txt s.2)]
   rw [show (w.alloc (.cells (cN a (.slice A f.len c)) 27)).heap.size = w.heap.size + 1 by simp] at h
   exact h
  exact ⟨0, Nat.zero_le _, rfl, hHd (fun j h => by omega), (Blk.new w _ _).alloc _, hb2, HB.out⟩
 case round =>
  obtain ⟨k, hk, rfl, HL, hP, hQ, hB⟩ := hrel
  have p5 : wr.cell? ⟨w.heap.size, 5, none⟩ = some (.slice A f.len c) := (hP.cell 5).trans rfl
  have HBr := hHd hB
  have HP := hHd hP
  have HQ := hHd hQ
  by_cases hlt : k < f.len
  ·obtain ⟨a1, q, hg⟩ := Fr.get_some hlt
   obtain ⟨b, o, A', c', rfl, -, -, hbl, -, hcl⟩ := HK.out.at hg
   have i1 : (0 : Int) ≤ (k : Int) := by omega
   have i2 : (k : Int) < (f.len : Int) := by omega
   have i3 : (f.len : Int) ≤ 1000000 := by have := HLL.out; omega
   have q0 : wr.cell? ⟨b, o + k * 6, none⟩ = some (.string (txt a1.name)) := (hB.cell (p := ⟨b, o + k * 6, none⟩) hbl).trans (hcl 0 _ rfl)
   have q1 : wr.cell? ⟨b, o + k * 6 + 1, none⟩ = some (.string (txt a1.key)) := (hB.cell (p := ⟨b, o + k * 6 + 1, none⟩) hbl).trans (hcl 1 _ rfl)
   have r0 : wr.cell? ⟨w.heap.size + 1, 0, none⟩ = some (.string (txt s.1)) := (hQ.cell 0).trans rfl
   have r1 : wr.cell? ⟨w.heap.size + 1, 1, none⟩ = some (.string (txt s.2)) := (hQ.cell 1).trans rfl
   have ta : (txt a1.name).toList = a1.name := txt_toList _
   have tb : (txt a1.key).toList = a1.key := txt_toList _
   have HG := hHd hg
   clear hcl hg hP hQ hB hbl
   by_cases hn : a1.name = s.1
   ·have h1 : (a1.name == s.1) = true := beq_iff_eq.2 hn
    by_cases hk2 : a1.key = s.2
    ·have h2 : (a1.key == s.2) = true := beq_iff_eq.2 hk2
     have HF : Hid (findIx s f = (k : Int)) := hHd (by unfold findIx; rw [find_lt HL.out ⟨_, HG.out, Prod.ext hn hk2⟩])
     clear hn hk2
     go_wp2_with fail
     go_region
     all_goals go_wp2
     all_goals go_ret
     all_goals exact ⟨by rw [HF.out]; rfl, HBr.out.drew⟩
    ·have h2 : (a1.key == s.2) = false := beq_eq_false_iff_ne.2 hk2
     have HL2 : Hid (∀ j, j < k + 1 → ∀ y, f.get? j = some y → stp y.1 ≠ s) := hHd (fun j hj y hy => by
      by_cases e : j = k
      ·subst e; rw [HG.out] at hy; injection hy with hy; subst hy; exact fun e => hk2 (congrArg Prod.snd e)
      ·exact HL.out j (by omega) y hy)
     clear hn hk2
     go_wp2_with fail
     go_region
     all_goals go_wp2
     all_goals go_roundw
     all_goals first | exact ⟨k + 1, by omega, by go_num, HL2, HP.out.below (Below.refl _ _).drew HP.out.lt, HQ.out.below (Below.refl _ _).drew HQ.out.lt, HBr.out.drew⟩ | (simp [intOf]; omega)
   ·have h1 : (a1.name == s.1) = false := beq_eq_false_iff_ne.2 hn
    have HL2 : Hid (∀ j, j < k + 1 → ∀ y, f.get? j = some y → stp y.1 ≠ s) := hHd (fun j hj y hy => by
     by_cases e : j = k
     ·subst e; rw [HG.out] at hy; injection hy with hy; subst hy; exact fun e => hn (congrArg Prod.fst e)
     ·exact HL.out j (by omega) y hy)
    clear hn
    go_wp2_with fail
    go_region
    all_goals go_wp2
    all_goals go_roundw
    all_goals first | exact ⟨k + 1, by omega, by go_num, HL2, HP.out.below (Below.refl _ _).drew HP.out.lt, HQ.out.below (Below.refl _ _).drew HQ.out.lt, HBr.out.drew⟩ | (simp [intOf]; omega)
  ·have HF : Hid (findIx s f = -1) := hHd (by unfold findIx; rw [find_out (fun j hj y hy => HL.out j (by omega) y hy)])
   have i2 : ¬ (k : Int) < (f.len : Int) := by omega
   clear hP hQ hB
   go_wp2
   go_ret
   exact ⟨by rw [HF.out]; rfl, HBr.out⟩
theorem rsizef_any (f : NdF) : ∀ (a : NdD) (A : Option Addr) (c : Nat) (w : World), RowT w.heap.size w (.slice A f.len c) f → f.size ≤ 1000000 →
  Calls Tryz.prog 18 #[.agg (cN a (.slice A f.len c))] w (Ans9 (.int .i64 ((f.size + 1 : Nat) : Int)) w) := by
 refine Fr.byKids (P := fun f => ∀ (a : NdD) (A : Option Addr) (c : Nat) (w : World), RowT w.heap.size w (.slice A f.len c) f → f.size ≤ 1000000 →
  Calls Tryz.prog 18 #[.agg (cN a (.slice A f.len c))] w (Ans9 (.int .i64 ((f.size + 1 : Nat) : Int)) w)) ?_ f
 clear f
 intro f hkids a A c w hk hsz
 have hB : Below w.heap.size w (w.alloc (.cells (cN a (.slice A f.len c)) 27)) := bAl
 have HB0 := hHd hB
 have HI := hHd hkids
 have HK : Hid (RowT w.heap.size w (.slice A f.len c) f) := hHd hk
 have HZ : Hid (f.size ≤ 1000000) := hHd hsz
 clear hkids hk hsz hB
 go_enter Tryz.func18, Tryz.ntmps18
 go_wp2
 go_loopw [3, 4] (fun m i wr => ∃ (j s : Nat), j ≤ f.len ∧ i = .int .i64 (j : Int) ∧ m = .int .i64 (s : Int) ∧ Hid (s = (Fr.take j f).size + 1) ∧ Blk wr w.heap.size 27 (cN a (.slice A f.len c)) ∧ Below w.heap.size w wr) (fun _ i _ => f.len - (intOf i).toNat)
 case atStart => exact ⟨0, 1, Nat.zero_le _, rfl, rfl, hHd (by simp [Fr.take, Fr.size]), Blk.new _ _ _, HB0.out⟩
 case round =>
  obtain ⟨j, s, hj, rfl, rfl, HS, hP, hB⟩ := hrel
  have p5 : wr.cell? ⟨w.heap.size, 5, none⟩ = some (.slice A f.len c) := (hP.cell 5).trans rfl
  have HBr := hHd hB
  by_cases hlt : j < f.len
  ·obtain ⟨a1, q, hg⟩ := Fr.get_some hlt
   obtain ⟨b, o, A', c', rfl, -, -, hbl, hrow, hcl⟩ := HK.out.at hg
   have hcell : ∀ i u, (ndC a1 (.slice A' q.len c'))[i]? = some u → wr.cell? ⟨b, o + j * 6 + i, none⟩ = some u := fun i u hu => (hB.cell (p := ⟨b, o + j * 6 + i, none⟩) hbl).trans (hcl i u hu)
   have q0 : wr.cell? ⟨b, o + j * 6, none⟩ = _ := hcell 0 _ rfl
   have q1 : wr.cell? ⟨b, o + j * 6 + 1, none⟩ = _ := hcell 1 _ rfl
   have q2 : wr.cell? ⟨b, o + j * 6 + 2, none⟩ = _ := hcell 2 _ rfl
   have q3 : wr.cell? ⟨b, o + j * 6 + 3, none⟩ = _ := hcell 3 _ rfl
   have q4 : wr.cell? ⟨b, o + j * 6 + 4, none⟩ = _ := hcell 4 _ rfl
   have q5 : wr.cell? ⟨b, o + j * 6 + 5, none⟩ = _ := hcell 5 _ rfl
   have i1 : (0 : Int) ≤ (j : Int) := by omega
   have i2 : (j : Int) < (f.len : Int) := by omega
   have i3 : (f.len : Int) ≤ 1000000 := by have := HZ.out; have := Fr.len_size f; omega
   have hts : (Fr.take (j + 1) f).size = (Fr.take j f).size + (q.size + 1) := by
    rw [(Fr.get_drop hg).2, Fr.size_app]; simp [Fr.size]
   have hle : (Fr.take (j + 1) f).size ≤ f.size := by
    have := congrArg Fr.size (Fr.take_app_drop (j + 1) f); rw [Fr.size_app] at this; omega
   obtain ⟨z, hz⟩ : ∃ z, z = q.size + 1 := ⟨_, rfl⟩
   have HI1 : Hid (Calls Tryz.prog 18 #[.agg (cN a1 (.slice A' q.len c'))] wr (Ans9 (.int .i64 (z : Int)) wr)) := hHd (by
    rw [hz]; exact HI.out j a1 q hg a1 A' c' wr (hrow.under hB (Nat.le_refl _) hB.size) (by have := HZ.out; omega))
   have i4 : (0 : Int) ≤ (s : Int) := by omega
   have i5 : (s : Int) ≤ 1000001 := by have := HS.out; have := HZ.out; omega
   have i6 : (0 : Int) ≤ (z : Int) := by omega
   have i7 : (z : Int) ≤ 1000001 := by have := HZ.out; omega
   have HS2 : Hid (s + z = (Fr.take (j + 1) f).size + 1) := hHd (by have := HS.out; omega)
   have HP := hHd hP
   clear hcl hg hrow hcell hts hle hz hP hB hbl
   go_wp2_with fail
   refine HI1.out.mono ?_
   rintro r w2 ⟨rfl, hb⟩
   have HP2 := hHd (HP.out.below hb HP.out.lt)
   have HB2 := hHd (HBr.out.trans (hb.mono HBr.out.size))
   clear hb
   go_wp2
   go_roundw
   case rel => exact ⟨j + 1, s + z, by omega, by go_num, by go_num, HS2, HP2.out, HB2.out⟩
   case measure => simp [intOf]; omega
  ·have i2 : ¬ (j : Int) < (f.len : Int) := by omega
   have HF : Hid (s = f.size + 1) := hHd (by have := HS.out; rw [show j = f.len by omega, Fr.take_all] at this; exact this)
   clear hP hB
   go_wp2
   go_ret
   exact ⟨by rw [HF.out]; rfl, HBr.out⟩
theorem held_more {P : Program} {md : Region.Mode} {ops : Array Oper} {Q : Exit → Act → World → Prop} {S S' : World → Prop} (h : ∀ w, S' w → S w) :
  ∀ (fuel : Nat) (listed : Array Bool) (a : Act) (w : World), wpAnyH P md ops Q S' fuel listed a w → wpAnyH P md ops Q S fuel listed a w
 | 0, _, _, _, hw => hw
 | fuel + 1, _, _, _, hw => ⟨hw.1, fun i hi => wpOp_mono (fun _ _ hq => ⟨h _ hq.1, held_more h fuel _ _ _ hq.2⟩) (hw.2 i hi)⟩
theorem tkH {P : Program} {ops : Array Oper} {Q : Exit → Act → World → Prop} {md : Region.Mode} {S : World → Prop} (i : Nat) {oi : Oper} {v : Value} {fuel : Nat} {listed : Array Bool} {a a' : Act} {w : World} (hS : S w) (h : wpAnyH P md ops Q S fuel (listed.setIfInBounds i true) a' w)
 (hi : ops[i]? = some oi := by (simp only [layG]; rfl)) (h1 : Region.noSelect ops = true := by kernel_rfl) (h2 : Region.free md ops listed i = true := by kernel_rfl) (h3 : (Region.ready md ops listed).contains i = true := by kernel_rfl)
 (hw : Region.wanted oi (yielded ops a.tmps) = true := by rfl) (hy : ∀ w, S w → (execOp a.eval oi).run P w = .ok (.value v) w := by (intro w hSw; (go_simp <;> with_reducible rfl)))
 (ha : a.put oi.dst v = a' := by (first | (simp only [Act.put, layS]; rfl) | rfl)) (hQ : ∀ c a w, Q (.panic c) (a.put oi.dst v) w → Q (.panic c) a w := by exact fun _ _ _ h => h) : wpAnyH P md ops Q S (fuel + 1) listed a w := by
 subst ha; exact wpAnyH_take hi h1 h2 h3 hQ (Or.inl ⟨hw, hy⟩) hS h
theorem tkHo {P : Program} {ops : Array Oper} {Q : Exit → Act → World → Prop} {md : Region.Mode} {S : World → Prop} (i : Nat) {oi : Oper} {fuel : Nat} {listed : Array Bool} {a a' : Act} {w : World} (hS : S w) (h : wpAnyH P md ops Q S fuel (listed.setIfInBounds i true) a' w)
 (hi : ops[i]? = some oi := by (simp only [layG]; rfl)) (h1 : Region.noSelect ops = true := by kernel_rfl) (h2 : Region.free md ops listed i = true := by kernel_rfl) (h3 : (Region.ready md ops listed).contains i = true := by kernel_rfl)
 (hw : Region.wanted oi (yielded ops a.tmps) = false := by rfl) (ha : a.put oi.dst undef = a' := by (first | (simp only [Act.put, layS]; rfl) | rfl)) (hQ : ∀ c a w, Q (.panic c) (a.put oi.dst undef) w → Q (.panic c) a w := by exact fun _ _ _ h => h) : wpAnyH P md ops Q S (fuel + 1) listed a w := by
 subst ha; exact wpAnyH_take hi h1 h2 h3 hQ (Or.inr ⟨hw, rfl⟩) hS h
theorem rdC {P : Program} {ops : Array Oper} {Q : Exit → Act → World → Prop} {md : Region.Mode} {S : World → Prop} {fuel : Nat} {listed : Array Bool} {a : Act} {w : World} {i : Nat} {o : Oper} {rs : List Nat} (h : ∀ K' : Act → World → Prop, Shut (∀ a w, S w → (S w → wpAnyH P md ops Q S fuel (listed.setIfInBounds i true) a w) → K' a w) → Oper.wp P o a w K' Q) (hs : AllReadyH P md ops Q S fuel listed a w rs)
 (ho : ops[i]? = some o := by (simp only [layG]; rfl)) (hw : Region.wanted o (yielded ops a.tmps) = true := by rfl) : AllReadyH P md ops Q S fuel listed a w (i :: rs) := .cons ho (fun K hK => by rw [if_pos hw]; exact h K hK) hs
theorem rdy {P : Program} {ops : Array Oper} {Q : Exit → Act → World → Prop} {md : Region.Mode} {S : World → Prop} {fuel : Nat} {listed : Array Bool} {a : Act} {w : World} (rs : List Nat) (h : AllReadyH P md ops Q S fuel listed a w rs) (hr : Region.ready md ops listed = rs := by kernel_rfl) (hne : rs ≠ [] := by simp) : wpAnyH P md ops Q S (fuel + 1) listed a w := wpAnyH_ready hr hne h
theorem rdy1 {P : Program} {ops : Array Oper} {Q : Exit → Act → World → Prop} {md : Region.Mode} {S : World → Prop} {fuel : Nat} {listed : Array Bool} {a : Act} {w : World} (i : Nat) {o : Oper} (h : ∀ K' : Act → World → Prop, Shut (∀ a w, S w → (S w → wpAnyH P md ops Q S fuel (listed.setIfInBounds i true) a w) → K' a w) → Oper.wp P o a w K' Q)
 (hr : Region.ready md ops listed = [i] := by kernel_rfl) (ho : ops[i]? = some o := by (simp only [layG]; rfl)) (hw : Region.wanted o (yielded ops a.tmps) = true := by rfl) : wpAnyH P md ops Q S (fuel + 1) listed a w := wpAnyH_ready hr (by simp) (rdC h .nil ho hw)
def RightP9 (f : NdF) : Prop := ∀ (a : NdD) (A : Option Addr) (c : Nat) (w : World), RowT w.heap.size w (.slice A f.len c) f → f.size ≤ 1000000 →
  Calls Tryz.prog 34 #[.agg (cN a (.slice A f.len c))] w (Ans9 (.bool (rgtX (a, f))) w)
theorem rright_leaf (f : NdF) (a : NdD) (A : Option Addr) (c : Nat) (w : World) (h0 : a.kind ≠ 0) :
  Calls Tryz.prog 34 #[.agg (cN a (.slice A f.len c))] w (Ans9 (.bool (rgtX (a, f))) w) := by
 have hB : Below w.heap.size w (w.alloc (.cells (cN a (.slice A f.len c)) 27)) := bAl
 have HB0 := hHd hB
 have e1 : (a.kind == 0) = false := beq_eq_false_iff_ne.2 h0
 have e2 : (a.kind != 0) = true := by simp [h0]
 have HV : Hid (rgtX (a, f) = decide (f.len = 0)) := hHd (by unfold rgtX; rw [if_pos h0])
 clear hB h0
 by_cases hl : f.len = 0
 ·have e3 : ((f.len : Int) == 0) = true := by simp [hl]
  have HW : Hid (f.len = 0) := hHd hl
  clear hl
  go_enter Tryz.func34, Tryz.ntmps34
  go_wp2
  go_ret
  exact ⟨by rw [HV.out, decide_eq_true HW.out]; rfl, HB0.out⟩
 ·have e3 : ((f.len : Int) == 0) = false := by simp [hl]
  have HW : Hid (¬ f.len = 0) := hHd hl
  clear hl
  go_enter Tryz.func34, Tryz.ntmps34
  go_wp2
  go_ret
  exact ⟨by rw [HV.out, decide_eq_false HW.out]; rfl, HB0.out⟩
theorem rright_box (f : NdF) (nm ky : List UInt8) (nu : Nat) (tx : List UInt8) (A : Option Addr) (c : Nat) (w : World) (h0 : ¬ (nu = 0 ∧ tx = [])) :
  Calls Tryz.prog 34 #[.agg #[.string (txt nm), .string (txt ky), .int .i64 0, .int .u64 (nu : Int), .string (txt tx), .slice A f.len c]] w (Ans9 (.bool false) w) := by
 have hB : Below w.heap.size w (w.alloc (.cells #[.string (txt nm), .string (txt ky), .int .i64 0, .int .u64 (nu : Int), .string (txt tx), .slice A f.len c] 27)) := bAl
 have HB0 := hHd hB
 have tt : (txt tx).toList = tx := txt_toList _
 clear hB
 by_cases h1 : nu = 0
 ·subst h1
  have e4 : tx.isEmpty = false := by cases tx with | nil => exact absurd ⟨rfl, rfl⟩ h0 | cons => rfl
  have e5 : (tx == []) = false := by cases tx with | nil => cases e4 | cons => rfl
  clear h0
  go_enter Tryz.func34, Tryz.ntmps34
  go_wp2
  go_ret
  exact ⟨rfl, HB0.out⟩
 ·have e3 : ((nu : Int) == 0) = false := by simp [h1]
  clear h0
  go_enter Tryz.func34, Tryz.ntmps34
  go_wp2
  go_ret
  exact ⟨rfl, HB0.out⟩
theorem okAt_at {f : NdF} {j : Nat} {a1 : NdD} {q : NdF} (hg : f.get? j = some (a1, q)) : okAt f j = (rgtX (a1, q) && (decide (j = 0) || (match f.get? (j - 1) with | none => true | some z => lessX z.1 a1))) := by
 unfold okAt
 rw [hg]
 cases j with
 | zero => simp
 | succ j =>
  simp only [Nat.add_sub_cancel]
  rw [show decide (j + 1 = 0) = false by simp, Bool.false_or]
  cases f.get? j <;> rfl
theorem rright_row (f : NdF) (hkids : ∀ n a k, f.get? n = some (a, k) → RightP9 k) (nm ky : List UInt8) (A : Option Addr) (c : Nat) (w : World) (hk : RowT w.heap.size w (.slice A f.len c) f) (hsz : f.size ≤ 1000000) :
  Calls Tryz.prog 34 #[.agg #[.string (txt nm), .string (txt ky), .int .i64 0, .int .u64 0, .string (txt []), .slice A f.len c]] w (Ans9 (.bool (rgtF f)) w) := by
 have hB : Below w.heap.size w (w.alloc (.cells #[.string (txt nm), .string (txt ky), .int .i64 0, .int .u64 0, .string (txt []), .slice A f.len c] 27)) := bAl
 have HB0 := hHd hB
 have HI := hHd hkids
 have HK : Hid (RowT w.heap.size w (.slice A f.len c) f) := hHd hk
 have HZ : Hid (f.size ≤ 1000000) := hHd hsz
 have tt : (txt []).toList = [] := txt_toList _
 clear hkids hk hsz hB
 go_enter Tryz.func34, Tryz.ntmps34
 go_wp2
 go_loopw [3] (fun i wr => ∃ j : Nat, j ≤ f.len ∧ i = .int .i64 (j : Int) ∧ Hid (∀ n, n < j → okAt f n = true) ∧ Blk wr w.heap.size 27 #[.string (txt nm), .string (txt ky), .int .i64 0, .int .u64 0, .string (txt []), .slice A f.len c] ∧ Below w.heap.size w wr) (fun i _ => f.len - (intOf i).toNat)
 case atStart => exact ⟨0, Nat.zero_le _, rfl, hHd (fun n h => by omega), Blk.new _ _ _, HB0.out⟩
 case round =>
  obtain ⟨j, hj, rfl, HL, hP, hB⟩ := hrel
  have p5 : wr.cell? ⟨w.heap.size, 5, none⟩ = some (.slice A f.len c) := (hP.cell 5).trans rfl
  have HBr := hHd hB
  by_cases hlt : j < f.len
  ·obtain ⟨a1, q, hg⟩ := Fr.get_some hlt
   have hok := okAt_at hg
   obtain ⟨b, o, A', c', rfl, -, -, hbl, hrow, hcl⟩ := HK.out.at hg
   have hcell : ∀ i u, (ndC a1 (.slice A' q.len c'))[i]? = some u → wr.cell? ⟨b, o + j * 6 + i, none⟩ = some u := fun i u hu => (hB.cell (p := ⟨b, o + j * 6 + i, none⟩) hbl).trans (hcl i u hu)
   have q0 : (wr).cell? ⟨b, o + j * 6, none⟩ = _ := hcell 0 _ rfl
   have q1 : (wr).cell? ⟨b, o + j * 6 + 1, none⟩ = _ := hcell 1 _ rfl
   have q2 : (wr).cell? ⟨b, o + j * 6 + 2, none⟩ = _ := hcell 2 _ rfl
   have q3 : (wr).cell? ⟨b, o + j * 6 + 3, none⟩ = _ := hcell 3 _ rfl
   have q4 : (wr).cell? ⟨b, o + j * 6 + 4, none⟩ = _ := hcell 4 _ rfl
   have q5 : (wr).cell? ⟨b, o + j * 6 + 5, none⟩ = _ := hcell 5 _ rfl
   have i1 : (0 : Int) ≤ (j : Int) := by omega
   have i2 : (j : Int) < (f.len : Int) := by omega
   have i3 : (f.len : Int) ≤ 1000000 := by have := HZ.out; have := Fr.len_size f; omega
   obtain ⟨rb, hrb⟩ : ∃ z, z = rgtX (a1, q) := ⟨_, rfl⟩
   have HI1 : Hid (Calls Tryz.prog 34 #[.agg (cN a1 (.slice A' q.len c'))] wr (Ans9 (.bool rb) wr)) := hHd (by
    rw [hrb]; exact HI.out j a1 q hg a1 A' c' wr (hrow.under hB (Nat.le_refl _) hB.size) (by have := HZ.out; have := Fr.size_get hg; omega))
   have HC : Hid (∀ i u, (ndC a1 (.slice A' q.len c'))[i]? = some u → w.cell? ⟨b, o + j * 6 + i, none⟩ = some u) := hHd hcl
   have HR : Hid (RowT w.heap.size w (.slice A' q.len c') q) := hHd hrow
   have HG := hHd hg
   have HOK := hHd hok
   have HRB := hHd hrb
   have HP := hHd hP
   have HBL : Hid (b < w.heap.size) := hHd hbl
   clear hcl hg hrow hcell hP hB hok hrb hbl
   go_wp2_with fail
   refine HI1.out.mono ?_
   rintro r w2 ⟨rfl, hb⟩
   have HP2 := hHd (HP.out.below hb HP.out.lt)
   have hB2 := HBr.out.trans (hb.mono HBr.out.size)
   have HB2 := hHd hB2
   have p5' : w2.cell? ⟨w.heap.size, 5, none⟩ = some (.slice (some ⟨b, o, none⟩) f.len c) := (HP2.out.cell 5).trans rfl
   clear hb p5 q0 q1 q2 q3 q4 q5
   cases rb with
   | false =>
    have HF : Hid (rgtF f = false) := hHd (right_none hlt (by rw [HOK.out, ← HRB.out]; rfl))
    clear hB2
    go_wp2_with fail
    go_region
    all_goals go_wp2
    all_goals go_ret
    all_goals exact ⟨by rw [HF.out]; rfl, HB2.out.drew⟩
   | true =>
    by_cases hj0 : j = 0
    ·subst hj0
     have HL2 : Hid (∀ n, n < 0 + 1 → okAt f n = true) := hHd (fun n hn => by
      rw [show n = 0 by omega, HOK.out, ← HRB.out]; rfl)
     clear hB2
     go_wp2_with fail
     go_region
     all_goals go_wp2
     all_goals go_roundw
     all_goals first | exact ⟨0 + 1, by omega, by go_num, HL2, HP2.out.below (Below.refl _ _).drew HP2.out.lt, HB2.out.drew⟩ | (simp [intOf]; done) | (simp [intOf]; omega)
    ·obtain ⟨m, rfl⟩ : ∃ m, j = m + 1 := ⟨j - 1, by omega⟩
     obtain ⟨a0, k0, hg0⟩ := Fr.get_some (f := f) (n := m) (by omega)
     obtain ⟨b1, o1, A0, c0, ee, -, -, -, hrow0, hcl0⟩ := HK.out.at hg0
     injection ee with ee
     injection ee with e1 e2 e3
     subst e1 e2
     obtain ⟨lb, hlb⟩ : ∃ z, z = lessX a0 a1 := ⟨_, rfl⟩
     have hok2 : okAt f (m + 1) = lb := by
      rw [HOK.out, ← HRB.out, hlb]
      simp [hg0]
     have HOK2 := hHd hok2
     have L0 : LieN w2.drew (ndC a0 (.slice A0 k0.len c0)) (a0, k0) := LieB.make (hrow0.under hB2.drew (Nat.le_refl _) hB2.size)
     have L1 : LieN w2.drew (ndC a1 (.slice A' q.len c')) (a1, q) := LieB.make (HR.out.under hB2.drew (Nat.le_refl _) hB2.size)
     have HLc : Hid (Calls Tryz.prog 60 #[.agg (cN a0 (.slice A0 k0.len c0)), .agg (cN a1 (.slice A' q.len c'))] w2.drew (Ans9 (.bool lb) w2.drew)) := hHd (by
      rw [hlb]; exact rless_any (a0, k0) (a1, q) _ _ w2.drew L0 L1)
     have HQ1 := hHd (And.intro (HP2.out.below (Below.refl _ _).drew HP2.out.lt) (And.intro (fun i u hu => (hB2.drew.cell (p := ⟨b, o + m * 6 + i, none⟩) HBL.out).trans (hcl0 i u hu)) (fun i u hu => (hB2.drew.cell (p := ⟨b, o + (m + 1) * 6 + i, none⟩) HBL.out).trans (HC.out i u hu))))
     have HBd := hHd hB2.drew
     have hm : (0 : Int) ≤ (m : Int) := by omega
     have hn1 : (0 : Int) ≤ (m : Int) + 1 := by omega
     have hn2 : (m : Int) + 1 < (f.len : Int) := by omega
     have hm2 : (m : Int) < (f.len : Int) := by omega
     have jw : IntKind.i64.wrap (m : Int) = (m : Int) := Go.IntWalk.i64_in _ (by omega)
     have HJ := hHd jw
     have HL3 : Hid (lb = true → ∀ n, n < m + 1 + 1 → okAt f n = true) := hHd (fun h n hn => by
      by_cases e : n = m + 1
      ·rw [e, HOK2.out, h]
      ·exact HL.out n (by omega))
     clear hB2 hcl0 hrow0 hg0 hlb hok2 L0 L1 jw hj0
     go_wp2_with fail
     refine wp_region_noPanic ?_
     refine wp_region_held_drew (S := fun _ => True) (by kernel_rfl) trivial (fun hS => ?_)
     refine tkH 0 hS ?_
     refine tkH 1 hS ?_
     refine tkH 2 hS ?_
     refine tkH 3 hS ?_
     refine tkH 4 hS ?_
     refine tkH 5 hS ?_
     refine held_more (S' := fun w' => Blk w' w.heap.size 27 #[.string (txt nm), .string (txt ky), .int .i64 0, .int .u64 0, .string (txt []), .slice (some ⟨b, o, none⟩) f.len c] ∧ (∀ i u, (ndC a0 (.slice A0 k0.len c0))[i]? = some u → w'.cell? ⟨b, o + m * 6 + i, none⟩ = some u) ∧ (∀ i u, (ndC a1 (.slice A' q.len c'))[i]? = some u → w'.cell? ⟨b, o + (m + 1) * 6 + i, none⟩ = some u)) (fun _ _ => trivial) _ _ _ _ ?_
     replace hS := HQ1.out
     refine tkH 6 hS ?_
     refine tkH 7 hS ?_ (hy := fun w hSw => by have q5 := (hSw.1.cell 5).trans rfl; (go_simp <;> with_reducible rfl))
     refine tkH 8 hS ?_
     refine tkH 9 hS ?_
     refine tkH 10 hS ?_ (hy := fun w hSw => by have jw := HJ.out; (go_simp <;> with_reducible rfl))
     refine tkH 11 hS ?_ (hy := fun w hSw => by have u0 : w.cell? ⟨b, o + m * 6, none⟩ = _ := hSw.2.1 0 _ rfl; have u1 := hSw.2.1 1 _ rfl; have u2 := hSw.2.1 2 _ rfl; have u3 := hSw.2.1 3 _ rfl; have u4 := hSw.2.1 4 _ rfl; have u5 := hSw.2.1 5 _ rfl; (go_simp <;> with_reducible rfl))
     refine tkH 12 hS ?_
     refine tkH 13 hS ?_ (hy := fun w hSw => by have q5 := (hSw.1.cell 5).trans rfl; (go_simp <;> with_reducible rfl))
     refine tkH 14 hS ?_
     refine tkH 15 hS ?_
     refine tkH 16 hS ?_ (hy := fun w hSw => by have u0 : w.cell? ⟨b, o + (m + 1) * 6, none⟩ = _ := hSw.2.2 0 _ rfl; have u1 := hSw.2.2 1 _ rfl; have u2 := hSw.2.2 2 _ rfl; have u3 := hSw.2.2 3 _ rfl; have u4 := hSw.2.2 4 _ rfl; have u5 := hSw.2.2 5 _ rfl; (go_simp <;> with_reducible rfl))
     refine rdy1 17 fun K hK => ?_
     go_simp
     refine HLc.out.mono ?_
     rintro r w6 ⟨rfl, hb6⟩
     have HX6 := hHd (HQ1.out.1.below hb6 HQ1.out.1.lt)
     have HB6 := hHd (HBd.out.trans (hb6.mono HBd.out.size))
     have HW6 := hHd hb6
     clear hb6
     go_wp2_with fail
     refine hK.out _ _ ?sr_0 (fun hS => ?_)
     case sr_0 => (exact ⟨HX6.out, fun i u hu => (HW6.out.cell (p := ⟨b, o + m * 6 + i, none⟩) (Nat.lt_of_lt_of_le HBL.out HBd.out.size)).trans (HQ1.out.2.1 i u hu), fun i u hu => (HW6.out.cell (p := ⟨b, o + (m + 1) * 6 + i, none⟩) (Nat.lt_of_lt_of_le HBL.out HBd.out.size)).trans (HQ1.out.2.2 i u hu)⟩)
     clear hK K
     (try simp only [Act.put, layS])
     refine tkH 18 hS ?_
     refine tkH 19 hS ?_
     refine tkH 20 hS ?_
     refine wpAnyH_done (by kernel_rfl) ?_ _
     refine NoPanic.normal ?_
     cases lb with
     | false =>
      have HF : Hid (rgtF f = false) := hHd (right_none hlt HOK2.out)
      clear hS
      go_wp2
      go_ret
      exact ⟨by rw [HF.out]; rfl, HB6.out⟩
     | true =>
      have HL2 := hHd (HL3.out rfl)
      clear hS
      go_wp2
      go_roundw
      case rel => exact ⟨m + 1 + 1, by omega, by go_num, HL2, HX6.out, HB6.out⟩
      case measure => simp [intOf]; omega
  ·have i2 : ¬ (j : Int) < (f.len : Int) := by omega
   have HF : Hid (rgtF f = true) := hHd (right_at.2 (fun n hn => HL.out n (by omega)))
   clear hP hB
   go_wp2
   go_ret
   exact ⟨by rw [HF.out]; rfl, HBr.out⟩
theorem rrightf_any (f : NdF) : RightP9 f := by
 refine Fr.byKids (P := RightP9) ?_ f
 clear f
 intro f hkids a A c w hk hsz
 by_cases h0 : a.kind = 0
 ·obtain ⟨nm, ky, kd, nu, tx⟩ := a
  simp only at h0
  subst h0
  by_cases h1 : nu = 0 ∧ tx = []
  ·obtain ⟨rfl, rfl⟩ := h1
   have e : rgtX ((⟨nm, ky, 0, 0, []⟩ : NdD), f) = rgtF f := by unfold rgtX; simp
   rw [e]
   exact rright_row f hkids nm ky A c w hk hsz
  ·have e : rgtX ((⟨nm, ky, 0, nu, tx⟩ : NdD), f) = false := by unfold rgtX; simp; intro h2 h3; exact absurd ⟨h2, h3⟩ h1
   rw [e]
   exact rright_box f nm ky nu tx A c w h1
 ·exact rright_leaf f a A c w h0
theorem rright_any (x : Nd) (cs : List Value) (w : World) (hx : LieN w cs x) (hf : Few9 x) : Calls Tryz.prog 34 #[.agg cs.toArray] w (Ans9 (.bool (rgtX x)) w) := by
 obtain ⟨A, c, rfl, hk⟩ := hx.shape
 exact rrightf_any x.2 x.1 A c w hk hf
theorem res_ct9 {P : Program} {fn : Func} {p u : Tmp} {ty : TypeId} (h : fn.results = #[.cell p ty, .tmp u]) (tmps : Array Value) (w : World) (g : Nat) (t : TypeId) (cs : Array Value) (fr : Nat × Nat) (d : TypeDesc)
  (hp : tmps.getD p undef = .pointer (some ⟨g, 0, none⟩)) (hg : w.heap[g]? = some (.cells cs t fr))
  (hu : P.underlying ty = some d) (hd : (match d with | .struct _ | .array _ _ => true | _ => false) = true) (hi : (P.info? ty).map (·.size) = some cs.size) :
  (results fn tmps).run P w = .ok (.tuple #[.agg cs, tmps.getD u undef]) w := by
 rw [results_cell_tmp h, hp]
 simp [asAddr, run_loadVar_row w g t ty cs fr d hg hu hd hi, Result.andThen]
def set6 (w : World) (b : Nat) (x0 x1 x2 x3 x4 x5 : Value) : World := (((((w.setCell ⟨b, 0, none⟩ x0).setCell ⟨b, 1, none⟩ x1).setCell ⟨b, 2, none⟩ x2).setCell ⟨b, 3, none⟩ x3).setCell ⟨b, 4, none⟩ x4).setCell ⟨b, 5, none⟩ x5
theorem Blk.set6 {w : World} {b : Nat} {t : TypeId} {y0 y1 y2 y3 y4 y5 : Value} (h : Blk w b t #[y0, y1, y2, y3, y4, y5]) (x0 x1 x2 x3 x4 x5 : Value) : Blk (set6 w b x0 x1 x2 x3 x4 x5) b t #[x0, x1, x2, x3, x4, x5] := by
 have h2 := ((((((h).set_ 0 x0).set_ 1 x1).set_ 2 x2).set_ 3 x3).set_ 4 x4).set_ 5 x5
 simp only [layS] at h2
 exact h2
theorem set6_below {B : Nat} {w : World} {b : Nat} {x0 x1 x2 x3 x4 x5 : Value} (h : B ≤ b) : Below B w (set6 w b x0 x1 x2 x3 x4 x5) :=
 ((((((Below.refl B w).setCell (p := ⟨b, 0, none⟩) h x0).setCell (p := ⟨b, 1, none⟩) h x1).setCell (p := ⟨b, 2, none⟩) h x2).setCell (p := ⟨b, 3, none⟩) h x3).setCell (p := ⟨b, 4, none⟩) h x4).setCell (p := ⟨b, 5, none⟩) h x5
theorem set6_other {w : World} {b g : Nat} {x0 x1 x2 x3 x4 x5 : Value} (h : g ≠ b) : (set6 w b x0 x1 x2 x3 x4 x5).heap[g]? = w.heap[g]? := by
 unfold set6
 rw [Below.heap_setCell _ _ _ _ h, Below.heap_setCell _ _ _ _ h, Below.heap_setCell _ _ _ _ h, Below.heap_setCell _ _ _ _ h, Below.heap_setCell _ _ _ _ h, Below.heap_setCell _ _ _ _ h]
theorem set6_size {w : World} {b : Nat} {x0 x1 x2 x3 x4 x5 : Value} : (set6 w b x0 x1 x2 x3 x4 x5).heap.size = w.heap.size := by simp [set6, World.setCell]
theorem LieB.row {b : Nat} {w : World} {a : NdD} {f : NdF} {v : Value} (h : LieB b w (ndC a v) (a, f)) : RowT b w v f := by
 obtain ⟨A, c, e, h2⟩ := h.shape
 have e2 : v = .slice A f.len c := by
  have := congrArg (fun l => l[5]?) e
  simpa using this
 rw [e2]
 exact h2
theorem LieP.set6 {b B g : Nat} {w : World} {cs : List Value} {x : Nd} (h : LieP b B w cs x) (hg : b ≤ g) (hB : g < B) (x0 x1 x2 x3 x4 x5 : Value) : LieP b B (set6 w g x0 x1 x2 x3 x4 x5) cs x :=
 h.keep (fun k hk => set6_other (by omega)) (fun k hk => by rw [set6_size]; exact hk)
theorem LieP.after {b B B' : Nat} {w : World} {cs : List Value} {x : Nd} (h : LieP b B w cs x) (hB : B' ≤ B) : LieP b B' w cs x :=
 h.keep (fun _ _ => rfl) (fun k hk => by rcases hk with h | h; exact .inl h; exact .inr ⟨by omega, h.2⟩)
theorem LieP.below {b B : Nat} {w w' : World} {cs : List Value} {x : Nd} (h : LieP b B w cs x) (hb : Below w.heap.size w w') (hbw : b ≤ w.heap.size) : LieP b B w' cs x :=
 h.keep (fun k hk => hb.block k (by rcases hk with h | h <;> omega)) (fun k hk => by have := hb.size; rcases hk with h | h; exact .inl h; exact .inr ⟨h.1, by omega⟩)
theorem GetX_none {x : Nd} {s : Stp} {l : List Stp} (h : findN s x.2 = none) : GetX x (s :: l) = (noN, false) := by
 unfold GetX; simp only [getX]; rw [findN_none h]
theorem GetX_some {x y : Nd} {s : Stp} {l : List Stp} {i : Nat} (h : findN s x.2 = some i) (hy : x.2.get? i = some y) : GetX x (s :: l) = GetX y l := by
 unfold GetX; simp only [getX]
 obtain ⟨z, h1, h2, h3⟩ := find_stp h
 rw [hy] at h1
 injection h1 with h1
 rw [h3, ← h1]
end Go.Proofs.YtodlhgflfcadmaaGreat

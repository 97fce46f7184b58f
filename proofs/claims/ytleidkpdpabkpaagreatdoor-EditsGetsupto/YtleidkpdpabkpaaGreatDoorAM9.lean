/- EdtRefI -/
import Derived.Test.YtleidkpdpabkpaaGreatDoorAM8
set_option linter.unusedSimpArgs false
set_option linter.unusedVariables false
set_option maxRecDepth 100000
set_option maxHeartbeats 8000000
namespace Go.Proofs.YtleidkpdpabkpaaGreatDoor
open Go.RowKit
section
attribute [local go_sem] Oper.semAt_some
def valN18 (nm ky : List UInt8) : List UInt8 → NdD
 | x :: y :: s => if y = 0 then ⟨nm, ky, (x.toNat : Int), V18 s, []⟩ else ⟨nm, ky, (x.toNat : Int), 0, s⟩
 | _ => ⟨nm, ky, 0, 0, []⟩
theorem kid_val18 (k : Fo) : kid18 V18 k = valN18 (dat18 0 k) (dat18 2 k) (dat18 4 k) := by
 unfold kid18
 rcases dat18 4 k with _ | ⟨x, _ | ⟨y, s⟩⟩ <;> rfl
inductive Veil18k (P : Prop) : Prop
 | mk : P → Veil18k P
theorem Veil18k.out {P : Prop} (h : Veil18k P) : P := by cases h; assumption
theorem blk_atk18 {W : World} {n : Nat} (h : W.heap.size = n) (t : TypeId) (cs : Array Value) : Blk (W.alloc (.cells cs t)) n t cs := by subst h; exact Blk.new _ _ _
theorem drop_len18 (k : Fo) : Fo.drop k.len k = .nil := by
 have h := Fo.len_drop k.len k
 rw [Nat.sub_self] at h
 cases hd : Fo.drop k.len k with
 | nil => rfl
 | cons => rw [hd] at h; simp [Fo.len] at h
theorem grown_set18 (w : World) (b o : Nat) (u : Value) : w.grownBy (w.setCell ⟨b, o, none⟩ u) (some b) :=
 ⟨rfl, rfl, rfl, by simp [World.setCell], fun k _ hne => Below.heap_setCell w ⟨b, o, none⟩ u k (fun e => hne (by rw [e]))⟩
theorem kid_app18 {w W w9 : World} {t : Nat} {d : List UInt8} {A : Option Addr} {k : Fo} {c : Nat} {a : NdD} {v v9 : Value} {F G : NdF} {S : Nat → Prop} (hB : Bx18 w t d A k c a v W) (hS : ∀ g, S g → w.heap.size + 3 ≤ g) (hO : OwnG NdT 42 6 5 W (w.heap.size + 3) S noB v F) (hb : w.heap.size + 3 ≤ W.heap.size) (hap : AppG NdT 42 6 5 (w.heap.size + 3) S noB W v G v9 w9) :
  OwnR18 (w.heap.size + 3) w9 v9 G ∧ Bx18 w t d A k c a v w9 ∧ True ∧ Blk w9 (w.heap.size + 2) 42 (cN a v) ∧ (∀ g, v9.ownBlock = some g → w.heap.size + 3 ≤ g) := by
 have n1 : ∀ g, g < w.heap.size + 3 → some g ≠ v.ownBlock := fun g hg e => by have := (hO.lt g e.symm).1; omega
 have hbl := hap.below hO hb
 have h3 := hB.2.2.1.grown hap.2.1 (n1 _ (by omega))
 exact ⟨⟨S, hS, hap.1⟩, ⟨hB.1.grown hap.2.1 (n1 _ (by omega)), hB.2.1.grown hap.2.1 (n1 _ (by omega)), h3, hB.2.2.2.trans (hbl.mono (by omega))⟩, trivial, h3, fun g e => (hap.1.lt g e).1⟩
theorem kid_set18 {w w9 : World} {t : Nat} {d : List UInt8} {A : Option Addr} {k : Fo} {c : Nat} {a : NdD} {v v9 : Value} {G : NdF} (h : OwnR18 (w.heap.size + 3) w9 v9 G ∧ Bx18 w t d A k c a v w9 ∧ True ∧ Blk w9 (w.heap.size + 2) 42 (cN a v) ∧ (∀ g, v9.ownBlock = some g → w.heap.size + 3 ≤ g)) :
  OwnR18 (w.heap.size + 3) (w9.setCell ⟨w.heap.size + 2, 5, none⟩ v9) v9 G ∧ Bx18 w t d A k c a v9 (w9.setCell ⟨w.heap.size + 2, 5, none⟩ v9) := by
 obtain ⟨⟨S, h1, h2⟩, hB, -, h3, h4⟩ := h
 have hg := grown_set18 w9 (w.heap.size + 2) 5 v9
 have hb : Below (w.heap.size + 2) w9 (w9.setCell ⟨w.heap.size + 2, 5, none⟩ v9) := (Below.refl _ _).setCell (p := ⟨w.heap.size + 2, 5, none⟩) (Nat.le_refl _) _
 have hk := h3.set_ 5 v9
 simp only [layS] at hk
 refine ⟨⟨S, h1, OwnG.grown stay_nd h2 hg ?_ (fun g hg' e => ?_) (fun g hg' => absurd hg' (by exact id))⟩, hB.1.below hb (by omega), hB.2.1.below hb (by omega), hk, hB.2.2.2.trans (hb.mono (by omega))⟩
 ·cases ho : v9.ownBlock with
  | none => exact .inl rfl
  | some g => exact .inr (fun e => by injection e with e; have := h4 g ho; omega)
 ·have := h1 g hg'
  injection e with e
  omega
theorem rkid_row18 (k : Fo) (hkids : Fo.kidsAll KidAt18 k) : KidAt18 k := by
 intro t d A c w hv hsz
 have h0 : Below w.heap.size w ((w.alloc (.cells #[.int .u64 (t : Int), .string (txt d), .slice A k.len c] 79)).alloc (.cells #[.string ⟨#[]⟩, .string ⟨#[]⟩, .int .i64 0, .int .u64 0, .string ⟨#[]⟩, .slice none 0 0] 42)) := bAl.alloc (by simp) _
 have hz : ((w.alloc (.cells #[.int .u64 (t : Int), .string (txt d), .slice A k.len c] 79)).alloc (.cells #[.string ⟨#[]⟩, .string ⟨#[]⟩, .int .i64 0, .int .u64 0, .string ⟨#[]⟩, .slice none 0 0] 42)).heap.size = w.heap.size + 2 := by simp
 have hb1 : Blk ((w.alloc (.cells #[.int .u64 (t : Int), .string (txt d), .slice A k.len c] 79)).alloc (.cells #[.string ⟨#[]⟩, .string ⟨#[]⟩, .int .i64 0, .int .u64 0, .string ⟨#[]⟩, .slice none 0 0] 42)) w.heap.size 79 #[.int .u64 (t : Int), .string (txt d), .slice A k.len c] := (Blk.new _ _ _).alloc _
 have hb2 : Blk ((w.alloc (.cells #[.int .u64 (t : Int), .string (txt d), .slice A k.len c] 79)).alloc (.cells #[.string ⟨#[]⟩, .string ⟨#[]⟩, .int .i64 0, .int .u64 0, .string ⟨#[]⟩, .slice none 0 0] 42)) (w.heap.size + 1) 42 #[.string ⟨#[]⟩, .string ⟨#[]⟩, .int .i64 0, .int .u64 0, .string ⟨#[]⟩, .slice none 0 0] := blk_atk18 (by simp) _ _
 have HB1 := hHd hb1
 have HB2 := hHd hb2
 have HZ := hHd hz
 have HWW := hHd h0
 have hkl : k.len ≤ 1000000 := Nat.le_trans (len_sz18 k) hsz
 have HKL := hHd hkl
 have HD : ∀ (u : Nat) W, Below w.heap.size w W → Hid (Calls Tryz.prog 35 #[.slice A k.len c, .int .u64 (u : Int)] W (fun r w' => r = .returned (.string (txt (dat18 u k))) ∧ W = w')) := fun u W hW => hHd (rdata18_any k u _ W (hv.kept stays_R (fun g hg => hW.block g hg) (fun _ hg => Nat.lt_of_lt_of_le hg hW.size)) hkl)
 have HD0 : ∀ W, Below w.heap.size w W → Hid (Calls Tryz.prog 35 #[.slice A k.len c, .int .u64 0] W (fun r w' => r = .returned (.string (txt (dat18 0 k))) ∧ W = w')) := HD 0
 have HD2 : ∀ W, Below w.heap.size w W → Hid (Calls Tryz.prog 35 #[.slice A k.len c, .int .u64 2] W (fun r w' => r = .returned (.string (txt (dat18 2 k))) ∧ W = w')) := HD 2
 have HD4 : ∀ W, Below w.heap.size w W → Hid (Calls Tryz.prog 35 #[.slice A k.len c, .int .u64 4] W (fun r w' => r = .returned (.string (txt (dat18 4 k))) ∧ W = w')) := HD 4
 clear HD
 obtain ⟨nm, hnm⟩ : ∃ s, s = dat18 0 k := ⟨_, rfl⟩
 obtain ⟨ky, hky⟩ : ∃ s, s = dat18 2 k := ⟨_, rfl⟩
 obtain ⟨V, hV⟩ : ∃ s, s = dat18 4 k := ⟨_, rfl⟩
 have hvl : V.length ≤ 1000000 := by rw [hV]; exact Nat.le_trans (dat_sz18 4 k) hsz
 rw [← hnm] at HD0
 rw [← hky] at HD2
 rw [← hV] at HD4
 have HKD : Hid (kid18 V18 k = valN18 nm ky V) := hHd (by rw [kid_val18, hnm, hky, hV])
 have HV := hHd hv
 have HSZ := hHd hsz
 have HI := hHd hkids
 have HVL := hHd hvl
 clear hv hsz hkids h0 hb1 hb2 hz hkl hnm hky hV hvl
 go_enter Tryz.func64, Tryz.ntmps64
 go_upto_region 1 with (fail)
 revert HB1 HB2 HZ HWW
 generalize ((w.alloc (.cells #[.int .u64 (t : Int), .string (txt d), .slice A k.len c] 79)).alloc (.cells #[.string ⟨#[]⟩, .string ⟨#[]⟩, .int .i64 0, .int .u64 0, .string ⟨#[]⟩, .slice none 0 0] 42)) = w2
 intro HB1 HB2 HZ HWW
 go_cut [3] (fun p wx => p = .pointer (some ⟨(w.heap.size + 2), 0, none⟩) ∧ Hid (Bx18 w t d A k c ⟨nm, ky, 0, 0, []⟩ (.slice none 0 0) wx))
 case first =>
  have HWD : Hid (Below w2.heap.size w2 w2.drew) := hHd (Below.refl _ _).drew
  have HQ : Veil18k (Bx18 w t d A k c ⟨nm, ky, 0, 0, []⟩ (.slice none 0 0) (w2.drew.alloc (.cells #[.string (txt nm), .string (txt ky), .int .i64 0, .int .u64 0, .string ⟨#[]⟩, .slice none 0 0] 42))) := .mk (by
   have hb : Below w2.heap.size w2 (w2.drew.alloc (.cells #[.string (txt nm), .string (txt ky), .int .i64 0, .int .u64 0, .string ⟨#[]⟩, .slice none 0 0] 42)) := HWD.out.alloc (Nat.le_refl _) _
   exact ⟨HB1.out.below hb HB1.out.lt, HB2.out.below hb HB2.out.lt, blk_atk18 HZ.out _ _, HWW.out.trans (hb.mono HWW.out.size)⟩)
  have HW0 := hHd (HWW.out.trans (HWD.out.mono HWW.out.size))
  clear HWW
  refine wp_region_noPanic ?_
  refine wp_region_held_drew (S := fun _ => True) (by kernel_rfl) trivial (fun hS => ?_)
  refine held_more (S' := fun w' => Below w2.heap.size w2 w') (fun _ _ => trivial) _ _ _ _ ?_
  replace hS := HWD.out
  refine tkH 0 hS ?_
  refine tkH 1 hS ?_ (hy := fun w hSw => by have q2 := ((HB1.out.below hSw HB1.out.lt).cell 2).trans rfl; (go_simp <;> with_reducible rfl))
  refine tkH 3 hS ?_
  refine tkH 4 hS ?_ (hy := fun w hSw => by have q2 := ((HB1.out.below hSw HB1.out.lt).cell 2).trans rfl; (go_simp <;> with_reducible rfl))
  refine rdy [2, 7] (rdC (fun K hK => ?str_0) (rdC (fun K hK => ?str_1) .nil))
  case' str_0 =>
   go_simp
   refine (HD0 _ HW0.out).out.mono ?_
   rintro r w9 ⟨rfl, rfl⟩
   go_wp2_with fail
   refine hK.out _ _ ?sr_0 (fun hS => ?_)
   case sr_0 => (exact hS)
   clear hK K
   (try simp only [Act.put, layS])
   refine rdy [5, 7] (rdC (fun K hK => ?str_2) (rdC (fun K hK => ?str_3) .nil))
   case' str_2 =>
    go_simp
    refine (HD2 _ HW0.out).out.mono ?_
    rintro r w9 ⟨rfl, rfl⟩
    go_wp2_with fail
    refine hK.out _ _ ?sr_2 (fun hS => ?_)
    case sr_2 => (exact hS)
    clear hK K
    (try simp only [Act.put, layS])
    refine tkH 6 hS ?_
    refine rdy1 7 fun K hK => ?_
    have HW0 := hHd (HW0.out.alloc HW0.out.size (.cells #[.string ⟨#[]⟩, .string ⟨#[]⟩, .int .i64 0, .int .u64 0, .string ⟨#[]⟩, .slice none 0 0] 42))
    go_simp
    refine hK.out _ _ ?sr_4 (fun hS => ?_)
    case sr_4 => (exact hS.alloc (Nat.le_refl _) _)
    clear hK K
    (try simp only [Act.put, layS])
    refine rdy1 8 fun K hK => ?_
    go_simp
    refine hK.out _ _ ?sr_5 (fun hS => ?_)
    case sr_5 => (exact HWD.out.alloc (Nat.le_refl _) _)
    clear hK K
    (try simp only [Act.put, layS])
    refine wpAnyH_done (by kernel_rfl) ?_ _
    refine NoPanic.normal ?_
   case' str_3 =>
    have HW0 := hHd (HW0.out.alloc HW0.out.size (.cells #[.string ⟨#[]⟩, .string ⟨#[]⟩, .int .i64 0, .int .u64 0, .string ⟨#[]⟩, .slice none 0 0] 42))
    go_simp
    refine hK.out _ _ ?sr_3 (fun hS => ?_)
    case sr_3 => (exact hS.alloc (Nat.le_refl _) _)
    clear hK K
    (try simp only [Act.put, layS])
    refine rdy1 5 fun K hK => ?_
    go_simp
    refine (HD2 _ HW0.out).out.mono ?_
    rintro r w9 ⟨rfl, rfl⟩
    go_wp2_with fail
    refine hK.out _ _ ?sr_6 (fun hS => ?_)
    case sr_6 => (exact hS)
    clear hK K
    (try simp only [Act.put, layS])
    refine tkH 6 hS ?_
    refine rdy1 8 fun K hK => ?_
    go_simp
    refine hK.out _ _ ?sr_7 (fun hS => ?_)
    case sr_7 => (exact HWD.out.alloc (Nat.le_refl _) _)
    clear hK K
    (try simp only [Act.put, layS])
    refine wpAnyH_done (by kernel_rfl) ?_ _
    refine NoPanic.normal ?_
  case' str_1 =>
   have HW0 := hHd (HW0.out.alloc HW0.out.size (.cells #[.string ⟨#[]⟩, .string ⟨#[]⟩, .int .i64 0, .int .u64 0, .string ⟨#[]⟩, .slice none 0 0] 42))
   go_simp
   refine hK.out _ _ ?sr_1 (fun hS => ?_)
   case sr_1 => (exact hS.alloc (Nat.le_refl _) _)
   clear hK K
   (try simp only [Act.put, layS])
   refine rdy1 2 fun K hK => ?_
   go_simp
   refine (HD0 _ HW0.out).out.mono ?_
   rintro r w9 ⟨rfl, rfl⟩
   go_wp2_with fail
   refine hK.out _ _ ?sr_8 (fun hS => ?_)
   case sr_8 => (exact hS)
   clear hK K
   (try simp only [Act.put, layS])
   refine rdy1 5 fun K hK => ?_
   go_simp
   refine (HD2 _ HW0.out).out.mono ?_
   rintro r w9 ⟨rfl, rfl⟩
   go_wp2_with fail
   refine hK.out _ _ ?sr_9 (fun hS => ?_)
   case sr_9 => (exact hS)
   clear hK K
   (try simp only [Act.put, layS])
   refine tkH 6 hS ?_
   refine rdy1 8 fun K hK => ?_
   go_simp
   refine hK.out _ _ ?sr_a (fun hS => ?_)
   case sr_a => (exact HWD.out.alloc (Nat.le_refl _) _)
   clear hK K
   (try simp only [Act.put, layS])
   refine wpAnyH_done (by kernel_rfl) ?_ _
   refine NoPanic.normal ?_
  all_goals (clear hS; go_wp2_with fail; go_meet; exact ⟨by rw [HZ.out], hHd HQ.out⟩)
 case rest =>
 obtain ⟨rfl, HB⟩ := hcut
 obtain ⟨w3, hw3⟩ : ∃ w3, w3 = wc := ⟨_, rfl⟩
 subst hw3
 clear HB1 HB2 HZ HWW HD0 HD2
 go_upto_region 2 with (fail)
 go_cut [4] (fun s wx => s = .string (txt V) ∧ w3 = wx)
 case first =>
  have q2 := (HB.out.1.cell 2).trans rfl
  go_wp2_with fail
  refine (HD4 _ HB.out.2.2.2).out.mono ?_
  rintro r w9 ⟨rfl, rfl⟩
  go_wp2_with fail
  go_meet
  exact ⟨rfl, rfl⟩
 case rest =>
 obtain ⟨rfl, rfl⟩ := hcut
 go_upto_if 20 with (fail)
 go_cut [] (fun wx => Hid (Bx18 w t d A k c (kid18 V18 k) (.slice none 0 0) wx))
 case first =>
  rcases V with _ | ⟨x, _ | ⟨y, s⟩⟩
  ·have HE : Hid (kid18 V18 k = ⟨nm, ky, 0, 0, []⟩) := hHd HKD.out
   have s1 : (txt ([] : List UInt8)).size = 0 := txt_size _
   go_wp2_with fail
   go_meet
   rw [HE.out]
   exact HB
  ·have HE : Hid (kid18 V18 k = ⟨nm, ky, 0, 0, []⟩) := hHd HKD.out
   have s1 : (txt [x]).size = 1 := txt_size _
   go_wp2_with fail
   go_meet
   rw [HE.out]
   exact HB
  ·have hl := HVL.out
   have s1 : (txt (x :: y :: s)).size = s.length + 1 + 1 := txt_size _
   have hlen : s.length ≤ 1000000 := by simp only [List.length_cons] at hl; omega
   have l1 : (1 : Int) < ((s.length + 1 + 1 : Nat) : Int) := by omega
   have hx0 : 0 < (txt (x :: y :: s)).size := by omega
   have hx1 : 1 < (txt (x :: y :: s)).size := by omega
   have g0 : (txt (x :: y :: s))[0]'hx0 = x := txt_get (x :: y :: s) 0 (by simp) hx0
   have g1 : (txt (x :: y :: s))[1]'hx1 = y := txt_get (x :: y :: s) 1 (by simp) hx1
   have hx := txt_extract (x :: y :: s) 2 (s.length + 1 + 1)
   have hx2 : ((x :: y :: s).take (s.length + 1 + 1)).drop 2 = s := by rw [List.take_of_length_le (by simp)]; rfl
   rw [hx2] at hx
   have hxl : x.toNat < 256 := byte_lt x
   have hxw : IntKind.i64.wrap ((x.toNat : Nat) : Int) = ((x.toNat : Nat) : Int) := Go.IntWalk.i64_in _ (by omega)
   clear hl hx2
   have fz2 : w3.frozen? ⟨(w.heap.size + 2), 2, none⟩ = false := HB.out.2.2.1.frozen 2
   have fq2 := (HB.out.2.2.1.cell 2).trans rfl
   have hk1 := HB.out.2.2.1.set_ 2 (.int .i64 (x.toNat : Int))
   simp only [layS] at hk1
   have HK1 : Hid (Blk (w3.setCell ⟨(w.heap.size + 2), 2, none⟩ (.int .i64 (x.toNat : Int))) (w.heap.size + 2) 42 #[.string (txt nm), .string (txt ky), .int .i64 (x.toNat : Int), .int .u64 0, .string ⟨#[]⟩, .slice none 0 0]) := hHd hk1
   have hs1 : Below (w.heap.size + 2) w3 (w3.setCell ⟨(w.heap.size + 2), 2, none⟩ (.int .i64 (x.toNat : Int))) := (Below.refl _ _).setCell (p := ⟨(w.heap.size + 2), 2, none⟩) (Nat.le_refl _) _
   have HQ1 : Hid (Blk (w3.setCell ⟨(w.heap.size + 2), 2, none⟩ (.int .i64 (x.toNat : Int))) w.heap.size 79 #[.int .u64 (t : Int), .string (txt d), .slice A k.len c] ∧ Blk (w3.setCell ⟨(w.heap.size + 2), 2, none⟩ (.int .i64 (x.toNat : Int))) (w.heap.size + 1) 42 #[.string ⟨#[]⟩, .string ⟨#[]⟩, .int .i64 0, .int .u64 0, .string ⟨#[]⟩, .slice none 0 0] ∧ Below w.heap.size w (w3.setCell ⟨(w.heap.size + 2), 2, none⟩ (.int .i64 (x.toNat : Int)))) := hHd ⟨HB.out.1.below hs1 (by omega), HB.out.2.1.below hs1 (by omega), HB.out.2.2.2.trans (hs1.mono (by omega))⟩
   clear hk1 hs1
   by_cases hy : y = 0
   ·have e1 : (((y.toNat : Nat) : Int) == 0) = true := by rw [hy]; rfl
    have HE : Hid (kid18 V18 k = ⟨nm, ky, (x.toNat : Int), V18 s, []⟩) := hHd (by rw [HKD.out]; exact if_pos hy)
    have HVX : ∀ W, Hid (Calls Tryz.prog 93 #[.string (txt s)] W (fun r w' => r = .returned (.tuple #[.int .u64 (V18 s : Int), .bool (decide ((strip18 s).length ≤ 8))]) ∧ W = w')) := fun W => hHd (rvalue18_any s W)
    clear hy
    have fz3 : (w3.setCell ⟨(w.heap.size + 2), 2, none⟩ (.int .i64 (x.toNat : Int))).frozen? ⟨(w.heap.size + 2), 3, none⟩ = false := HK1.out.frozen 3
    have fq3 : (w3.setCell ⟨(w.heap.size + 2), 2, none⟩ (.int .i64 (x.toNat : Int))).cell? ⟨(w.heap.size + 2), 3, none⟩ = some (.int .u64 0) := (HK1.out.cell 3).trans rfl
    have hk2 := HK1.out.set_ 3 (.int .u64 (V18 s : Int))
    simp only [layS] at hk2
    have hs2 : Below (w.heap.size + 2) (w3.setCell ⟨(w.heap.size + 2), 2, none⟩ (.int .i64 (x.toNat : Int))) ((w3.setCell ⟨(w.heap.size + 2), 2, none⟩ (.int .i64 (x.toNat : Int))).setCell ⟨(w.heap.size + 2), 3, none⟩ (.int .u64 (V18 s : Int))) := (Below.refl _ _).setCell (p := ⟨(w.heap.size + 2), 3, none⟩) (Nat.le_refl _) _
    have HQ : Veil18k (Bx18 w t d A k c ⟨nm, ky, (x.toNat : Int), V18 s, []⟩ (.slice none 0 0) ((w3.setCell ⟨(w.heap.size + 2), 2, none⟩ (.int .i64 (x.toNat : Int))).setCell ⟨(w.heap.size + 2), 3, none⟩ (.int .u64 (V18 s : Int)))) := .mk ⟨HQ1.out.1.below hs2 (by omega), HQ1.out.2.1.below hs2 (by omega), hk2, HQ1.out.2.2.trans (hs2.mono (by omega))⟩
    clear hk2 hs2
    go_wp2_with fail
    refine (HVX _).out.mono ?_
    rintro r w9 ⟨rfl, rfl⟩
    go_wp2_with fail
    go_meet
    rw [HE.out]
    exact hHd HQ.out
   ·have hyn : ¬ y.toNat = 0 := fun e => hy (UInt8.toNat.inj (by rw [e]; rfl))
    have e1 : (((y.toNat : Nat) : Int) == 0) = false := by rw [beq_eq_false_iff_ne]; omega
    have HE : Hid (kid18 V18 k = ⟨nm, ky, (x.toNat : Int), 0, s⟩) := hHd (by rw [HKD.out]; exact if_neg hy)
    clear hy hyn
    have fz4 : (w3.setCell ⟨(w.heap.size + 2), 2, none⟩ (.int .i64 (x.toNat : Int))).frozen? ⟨(w.heap.size + 2), 4, none⟩ = false := HK1.out.frozen 4
    have fq4 : (w3.setCell ⟨(w.heap.size + 2), 2, none⟩ (.int .i64 (x.toNat : Int))).cell? ⟨(w.heap.size + 2), 4, none⟩ = some (.string ⟨#[]⟩) := (HK1.out.cell 4).trans rfl
    have hk2 := HK1.out.set_ 4 (.string (txt s))
    simp only [layS] at hk2
    have hs2 : Below (w.heap.size + 2) (w3.setCell ⟨(w.heap.size + 2), 2, none⟩ (.int .i64 (x.toNat : Int))) ((w3.setCell ⟨(w.heap.size + 2), 2, none⟩ (.int .i64 (x.toNat : Int))).setCell ⟨(w.heap.size + 2), 4, none⟩ (.string (txt s))) := (Below.refl _ _).setCell (p := ⟨(w.heap.size + 2), 4, none⟩) (Nat.le_refl _) _
    have HQ : Veil18k (Bx18 w t d A k c ⟨nm, ky, (x.toNat : Int), 0, s⟩ (.slice none 0 0) ((w3.setCell ⟨(w.heap.size + 2), 2, none⟩ (.int .i64 (x.toNat : Int))).setCell ⟨(w.heap.size + 2), 4, none⟩ (.string (txt s)))) := .mk ⟨HQ1.out.1.below hs2 (by omega), HQ1.out.2.1.below hs2 (by omega), hk2, HQ1.out.2.2.trans (hs2.mono (by omega))⟩
    clear hk2 hs2
    go_wp2_with fail
    go_meet
    rw [HE.out]
    exact hHd HQ.out
 case rest =>
 have HB := hcut
 clear hcut HD4 HKD HVL
 obtain ⟨ka, hka⟩ : ∃ a, a = kid18 V18 k := ⟨_, rfl⟩
 rw [← hka] at HB
 have HKA := hHd hka
 clear hka
 obtain ⟨w4, hw4⟩ : ∃ w4, w4 = wc := ⟨_, rfl⟩
 subst hw4
 have HR0 : Hid (red18 V18 k = Fr.app .nil (red18 V18 (Fo.drop 0 k))) := hHd rfl
 have HO0 : Hid (OwnR18 (w.heap.size + 3) w4 (.slice none 0 0) .nil) := hHd (OwnR18.nil _ _)
 go_wp2
 go_loopw [7] (fun i wr => ∃ (j : Nat) (v : Value) (F : NdF), j ≤ k.len ∧ i = .int .i64 (j : Int) ∧ Hid (red18 V18 k = Fr.app F (red18 V18 (Fo.drop j k))) ∧ Hid (OwnR18 (w.heap.size + 3) wr v F) ∧ Hid (Bx18 w t d A k c ka v wr) ∧ Hid (F.len ≤ j)) (fun i _ => k.len - (intOf i).toNat)
 case atStart => exact ⟨0, _, .nil, Nat.zero_le _, rfl, HR0, HO0, HB, hHd (Nat.zero_le _)⟩
 case round =>
  clear HB HR0 HO0
  obtain ⟨j, v, F, hj, rfl, HR, HO, HB, HFL⟩ := hrel
  obtain ⟨w7, hw7⟩ : ∃ w7, w7 = wr := ⟨_, rfl⟩
  subst hw7
  have q2 : w7.cell? ⟨w.heap.size, 2, none⟩ = some (.slice A k.len c) := (HB.out.1.cell 2).trans rfl
  have i1 : (0 : Int) ≤ (j : Int) := by omega
  have i3 : (k.len : Int) ≤ 1000000 := by have := HKL.out; omega
  by_cases hlt : j < k.len
  ·have i2 : (j : Int) < (k.len : Int) := by omega
   obtain ⟨b, o, c', u, dd, q, hve, hcap, hS, hdr, htk, ht64, hc0, ⟨dv, hc1, hdv⟩, ⟨kv, hc2, hkv⟩⟩ := HV.out.at hlt
   injection hve with e1 e2 e3
   subst e1 e3
   have hdv' : dv = .string (txt dd) := hdv
   subst hdv'
   have hSb : b < w.heap.size := hS
   have hbw := HB.out.2.2.2
   have hC0 : w7.cell? ⟨b, o + j * 3, none⟩ = some (.int .u64 (u : Int)) := (hbw.cell (p := ⟨b, o + j * 3, none⟩) hSb).trans hc0
   have hra := red_app18 V18 hdr
   by_cases hu : u = 7
   ·subst hu
    have e1 : (((7 : Nat) : Int) == 7) = true := by decide
    have HR2 : Hid (red18 V18 k = Fr.app (F.app (.cons (kid18 V18 q) (red18 V18 q) .nil)) (red18 V18 (Fo.drop (j + 1) k))) := hHd (by rw [HR.out, hra, if_pos rfl, Fr.app_assoc]; rfl)
    obtain ⟨A2, c2, rfl⟩ := hkv.shape
    have hIH := Fo.kidsAll_drop j HI.out
    rw [hdr] at hIH
    have HSQ : Hid (q.sz ≤ 1000000) := hHd (by have := sz_drop18 hdr; have := HSZ.out; omega)
    obtain ⟨⟨qa, qf⟩, hq⟩ : ∃ y, y = (kid18 V18 q, red18 V18 q) := ⟨_, rfl⟩
    have HKQ : ∀ W, Below w7.heap.size w7 W → Hid (Calls Tryz.prog 64 #[.agg #[.int .u64 7, .string (txt dd), .slice A2 q.len c2]] W (PTreP1 0 (qa, qf) W)) := fun W hW => hHd (by
     rw [hq]
     exact hIH.1 7 dd A2 c2 W (hkv.kept stays_R (fun g hg => (hbw.trans (hW.mono hbw.size)).block g hg) (fun _ hg => Nat.lt_of_lt_of_le hg (hbw.trans (hW.mono hbw.size)).size)) HSQ.out)
    rw [show kid18 V18 q = qa from (congrArg Prod.fst hq).symm, show red18 V18 q = qf from (congrArg Prod.snd hq).symm] at HR2
    have HCL : Hid (∀ W, Below (w.heap.size + 2) w7 W → W.cell? ⟨b, o + j * 3, none⟩ = some (.int .u64 ((7 : Nat) : Int)) ∧ W.cell? ⟨b, o + j * 3 + 1, none⟩ = some (.string (txt dd)) ∧ W.cell? ⟨b, o + j * 3 + 2, none⟩ = some (.slice A2 q.len c2)) := hHd (fun W hW =>
     have h := hbw.trans (hW.mono (by omega))
     ⟨(h.cell (p := ⟨b, o + j * 3, none⟩) hSb).trans hc0, (h.cell (p := ⟨b, o + j * 3 + 1, none⟩) hSb).trans hc1, (h.cell (p := ⟨b, o + j * 3 + 2, none⟩) hSb).trans hc2⟩)
    clear hcap hdr htk ht64 hc0 hc1 hdv hc2 hkv hIH hq hra hbw
    obtain ⟨A3, c3, rfl⟩ := HO.out.shape
    obtain ⟨n, hn⟩ : ∃ n, n = F.len := ⟨_, rfl⟩
    have HN := hHd hn
    rw [← hn] at HB HO
    clear hn
    have HWD : Hid (Below w7.heap.size w7 w7.drew) := hHd (Below.refl _ _).drew
    have HBD : Hid (Bx18 w t d (some ⟨b, o, none⟩) k c ka (.slice A3 n c3) w7.drew) := hHd (HB.out.go HWD.out)
    have HSB : Hid (w.heap.size + 3 ≤ w7.heap.size) := hHd HB.out.2.2.1.lt
    go_upto_region 13 with (fail)
    have HL2 : Hid ((F.app (.cons qa qf .nil)).len ≤ j + 1) := hHd (by rw [Fr.len_app]; have := HFL.out; simp only [Fr.len]; omega)
    clear hC0 q2
    refine wp_region_noPanic ?_
    refine wp_region_held_drew (S := fun _ => True) (by kernel_rfl) trivial (fun hS => ?_)
    refine held_more (S' := fun w' => Below (w.heap.size + 2) w7 w') (fun _ _ => trivial) _ _ _ _ ?_
    replace hS := HWD.out.mono (show (w.heap.size + 2) ≤ w7.heap.size by have := HSB.out; omega)
    refine tkH 0 hS ?_
    refine tkH 2 hS ?_
    refine tkH 3 hS ?_ (hy := fun w hSw => by have q2 := ((HB.out.1.below hSw (by omega)).cell 2).trans rfl; (go_simp <;> with_reducible rfl))
    refine tkH 4 hS ?_
    refine tkH 5 hS ?_
    refine tkH 6 hS ?_ (hy := fun w hSw => by have z0 : w.cell? ⟨b, o + j * 3, none⟩ = _ := (HCL.out _ hSw).1; have z1 := (HCL.out _ hSw).2.1; have z2 := (HCL.out _ hSw).2.2; (go_simp <;> with_reducible rfl))
    refine rdy [1, 7] (rdC (fun K hK => ?str_b) (rdC (fun K hK => ?str_c) .nil))
    case' str_b =>
     have y5 := (HBD.out.2.2.1.cell 5).trans rfl
     go_simp
     refine hK.out _ _ ?sr_b (fun hS => ?_)
     case sr_b => (exact hS)
     clear hK K
     (try simp only [Act.put, layS])
     clear y5
     refine rdy1 7 fun K hK => ?_
     go_simp
     refine (HKQ _ HWD.out).out.mono ?_
     intro r w8 hr
     obtain ⟨A8, c8, rfl, hl8, hb8⟩ := hr.flat
     have HB8 := hHd (HBD.out.go hb8)
     have HW8 := hHd (HWD.out.trans (hb8.mono HWD.out.size))
     have HL8 := hHd hl8
     clear hb8 hr hl8
     go_wp2_with fail
     refine hK.out _ _ ?sr_d (fun hS => ?_)
     case sr_d => (exact HW8.out.mono (by have := HSB.out; omega))
     clear hK K
     (try simp only [Act.put, layS])
     refine rdy1 8 fun K hK => ?_
     have hb9 : Below w8.heap.size w8 (w8.alloc (.cells (cN qa (.slice A8 qf.len c8)) 42)) := bAl
     have HB9 := hHd (HB8.out.go hb9)
     have HW9 := hHd (HW8.out.trans (hb9.mono HW8.out.size))
     have HBL : Hid (Blk (w8.alloc (.cells (cN qa (.slice A8 qf.len c8)) 42)) w8.heap.size 42 (ndC qa (.slice A8 qf.len c8)).toArray) := hHd (Blk.new _ _ _)
     have HL9 := hHd (HL8.out.below hb9 (Nat.zero_le _))
     have HM9 := hHd (HO.out.more HW9.out HWD.out.size (Nat.le_trans HSB.out HWD.out.size) HL9.out)
     clear hb9
     go_simp
     refine hK.out _ _ ?sr_e (fun hS => ?_)
     case sr_e => (exact HW9.out.mono (by have := HSB.out; omega))
     clear hK K
     (try simp only [Act.put, layS])
     refine rdy1 9 fun K hK => ?_
     obtain ⟨S9, hS9, hO9, hT9⟩ := HM9.out
     refine wp_append_g stay_nd one_nd Tryz.underlying40 Tryz.cellsNd rfl (by decide) (.tmp 57) (.tmp 64) rfl rfl rfl hO9 rfl HBL.out hT9 (by have := HFL.out; omega) (by have := HFL.out; omega) (Nat.le_trans HSB.out HW9.out.size) ?_
     intro v9 w9 hap
     have HQ9 := hHd (kid_app18 HB9.out hS9 hO9 (Nat.le_trans HSB.out HW9.out.size) hap)
     have HW10 : Hid (Below (w.heap.size + 2) w7 w9) := hHd ((HW9.out.mono (by have := HSB.out; omega)).trans ((hap.below hO9 (Nat.le_trans HSB.out HW9.out.size)).mono (by omega)))
     obtain ⟨g9, c9, rfl⟩ := hap.2.2.2
     clear hap hO9 hT9 hS9 HM9
     refine hK.out _ _ ?sr_f (fun hS => ?_)
     case sr_f => (exact HW10.out)
     clear hK K
     (try simp only [Act.put, layS])
     refine tkH 10 hS ?_
     refine rdy1 11 fun K hK => ?_
     have fz5 := HQ9.out.2.2.2.1.frozen 5
     have fq5 := (HQ9.out.2.2.2.1.cell 5).trans rfl
     have HF9 := Veil18k.mk (kid_set18 HQ9.out)
     have HW11 := Veil18k.mk (HW10.out.setCell (p := ⟨(w.heap.size + 2), 5, none⟩) (Nat.le_refl _) (.slice (some ⟨g9, 0, none⟩) (F.app (.cons qa qf .nil)).len c9))
     go_simp
     refine hK.out _ _ ?sr_g (fun hS => ?_)
     case sr_g => (exact HW11.out)
     clear hK K
     (try simp only [Act.put, layS])
     refine wpAnyH_done (by kernel_rfl) ?_ _
     refine NoPanic.normal ?_
    case' str_c =>
     go_simp
     refine (HKQ _ HWD.out).out.mono ?_
     intro r w8 hr
     obtain ⟨A8, c8, rfl, hl8, hb8⟩ := hr.flat
     have HB8 := hHd (HBD.out.go hb8)
     have HW8 := hHd (HWD.out.trans (hb8.mono HWD.out.size))
     have HL8 := hHd hl8
     clear hb8 hr hl8
     go_wp2_with fail
     refine hK.out _ _ ?sr_c (fun hS => ?_)
     case sr_c => (exact HW8.out.mono (by have := HSB.out; omega))
     clear hK K
     (try simp only [Act.put, layS])
     refine rdy [1, 8] (rdC (fun K hK => ?str_h) (rdC (fun K hK => ?str_i) .nil))
     case' str_h =>
      have y5 := (HB8.out.2.2.1.cell 5).trans rfl
      go_simp
      refine hK.out _ _ ?sr_h (fun hS => ?_)
      case sr_h => (exact hS)
      clear hK K
      (try simp only [Act.put, layS])
      clear y5
      refine rdy1 8 fun K hK => ?_
      have hb9 : Below w8.heap.size w8 (w8.alloc (.cells (cN qa (.slice A8 qf.len c8)) 42)) := bAl
      have HB9 := hHd (HB8.out.go hb9)
      have HW9 := hHd (HW8.out.trans (hb9.mono HW8.out.size))
      have HBL : Hid (Blk (w8.alloc (.cells (cN qa (.slice A8 qf.len c8)) 42)) w8.heap.size 42 (ndC qa (.slice A8 qf.len c8)).toArray) := hHd (Blk.new _ _ _)
      have HL9 := hHd (HL8.out.below hb9 (Nat.zero_le _))
      have HM9 := hHd (HO.out.more HW9.out HWD.out.size (Nat.le_trans HSB.out HWD.out.size) HL9.out)
      clear hb9
      go_simp
      refine hK.out _ _ ?sr_j (fun hS => ?_)
      case sr_j => (exact HW9.out.mono (by have := HSB.out; omega))
      clear hK K
      (try simp only [Act.put, layS])
      refine rdy1 9 fun K hK => ?_
      obtain ⟨S9, hS9, hO9, hT9⟩ := HM9.out
      refine wp_append_g stay_nd one_nd Tryz.underlying40 Tryz.cellsNd rfl (by decide) (.tmp 57) (.tmp 64) rfl rfl rfl hO9 rfl HBL.out hT9 (by have := HFL.out; omega) (by have := HFL.out; omega) (Nat.le_trans HSB.out HW9.out.size) ?_
      intro v9 w9 hap
      have HQ9 := hHd (kid_app18 HB9.out hS9 hO9 (Nat.le_trans HSB.out HW9.out.size) hap)
      have HW10 : Hid (Below (w.heap.size + 2) w7 w9) := hHd ((HW9.out.mono (by have := HSB.out; omega)).trans ((hap.below hO9 (Nat.le_trans HSB.out HW9.out.size)).mono (by omega)))
      obtain ⟨g9, c9, rfl⟩ := hap.2.2.2
      clear hap hO9 hT9 hS9 HM9
      refine hK.out _ _ ?sr_k (fun hS => ?_)
      case sr_k => (exact HW10.out)
      clear hK K
      (try simp only [Act.put, layS])
      refine tkH 10 hS ?_
      refine rdy1 11 fun K hK => ?_
      have fz5 := HQ9.out.2.2.2.1.frozen 5
      have fq5 := (HQ9.out.2.2.2.1.cell 5).trans rfl
      have HF9 := Veil18k.mk (kid_set18 HQ9.out)
      have HW11 := Veil18k.mk (HW10.out.setCell (p := ⟨(w.heap.size + 2), 5, none⟩) (Nat.le_refl _) (.slice (some ⟨g9, 0, none⟩) (F.app (.cons qa qf .nil)).len c9))
      go_simp
      refine hK.out _ _ ?sr_l (fun hS => ?_)
      case sr_l => (exact HW11.out)
      clear hK K
      (try simp only [Act.put, layS])
      refine wpAnyH_done (by kernel_rfl) ?_ _
      refine NoPanic.normal ?_
     case' str_i =>
      have hb9 : Below w8.heap.size w8 (w8.alloc (.cells (cN qa (.slice A8 qf.len c8)) 42)) := bAl
      have HB9 := hHd (HB8.out.go hb9)
      have HW9 := hHd (HW8.out.trans (hb9.mono HW8.out.size))
      have HBL : Hid (Blk (w8.alloc (.cells (cN qa (.slice A8 qf.len c8)) 42)) w8.heap.size 42 (ndC qa (.slice A8 qf.len c8)).toArray) := hHd (Blk.new _ _ _)
      have HL9 := hHd (HL8.out.below hb9 (Nat.zero_le _))
      have HM9 := hHd (HO.out.more HW9.out HWD.out.size (Nat.le_trans HSB.out HWD.out.size) HL9.out)
      clear hb9
      go_simp
      refine hK.out _ _ ?sr_i (fun hS => ?_)
      case sr_i => (exact HW9.out.mono (by have := HSB.out; omega))
      clear hK K
      (try simp only [Act.put, layS])
      refine rdy1 1 fun K hK => ?_
      have y5 := (HB8.out.2.2.1.cell 5).trans rfl
      have z5 := (HB9.out.2.2.1.cell 5).trans rfl
      go_simp
      refine hK.out _ _ ?sr_m (fun hS => ?_)
      case sr_m => (exact hS)
      clear hK K
      (try simp only [Act.put, layS])
      clear z5
      clear y5
      refine rdy1 9 fun K hK => ?_
      obtain ⟨S9, hS9, hO9, hT9⟩ := HM9.out
      refine wp_append_g stay_nd one_nd Tryz.underlying40 Tryz.cellsNd rfl (by decide) (.tmp 57) (.tmp 64) rfl rfl rfl hO9 rfl HBL.out hT9 (by have := HFL.out; omega) (by have := HFL.out; omega) (Nat.le_trans HSB.out HW9.out.size) ?_
      intro v9 w9 hap
      have HQ9 := hHd (kid_app18 HB9.out hS9 hO9 (Nat.le_trans HSB.out HW9.out.size) hap)
      have HW10 : Hid (Below (w.heap.size + 2) w7 w9) := hHd ((HW9.out.mono (by have := HSB.out; omega)).trans ((hap.below hO9 (Nat.le_trans HSB.out HW9.out.size)).mono (by omega)))
      obtain ⟨g9, c9, rfl⟩ := hap.2.2.2
      clear hap hO9 hT9 hS9 HM9
      refine hK.out _ _ ?sr_n (fun hS => ?_)
      case sr_n => (exact HW10.out)
      clear hK K
      (try simp only [Act.put, layS])
      refine tkH 10 hS ?_
      refine rdy1 11 fun K hK => ?_
      have fz5 := HQ9.out.2.2.2.1.frozen 5
      have fq5 := (HQ9.out.2.2.2.1.cell 5).trans rfl
      have HF9 := Veil18k.mk (kid_set18 HQ9.out)
      have HW11 := Veil18k.mk (HW10.out.setCell (p := ⟨(w.heap.size + 2), 5, none⟩) (Nat.le_refl _) (.slice (some ⟨g9, 0, none⟩) (F.app (.cons qa qf .nil)).len c9))
      go_simp
      refine hK.out _ _ ?sr_o (fun hS => ?_)
      case sr_o => (exact HW11.out)
      clear hK K
      (try simp only [Act.put, layS])
      refine wpAnyH_done (by kernel_rfl) ?_ _
      refine NoPanic.normal ?_
    all_goals clear hS HQ9 HW10 HW11 HB9 HW9 HBL HL9 HB8 HW8 HL8 HB HO HR HBD HWD fz5 fq5
    all_goals (go_wp2_with fail; go_roundw <;> first | exact ⟨j + 1, _, _, by omega, by go_num, HR2, hHd HF9.out.1, hHd HF9.out.2, HL2⟩ | (simp [intOf]; omega))
   ·have e1 : ((u : Int) == 7) = false := by rw [beq_eq_false_iff_ne]; omega
    have e2 : (u == 7) = false := beq_eq_false_iff_ne.2 hu
    have HR2 : Hid (red18 V18 k = Fr.app F (red18 V18 (Fo.drop (j + 1) k))) := hHd (by rw [HR.out, hra, if_neg hu])
    have HFL2 : Hid (F.len ≤ j + 1) := hHd (Nat.le_succ_of_le HFL.out)
    clear hcap hdr htk ht64 hc0 hc1 hdv hc2 hkv hra hbw hu
    go_wp2_with fail
    go_roundw
    case rel => exact ⟨j + 1, v, F, by omega, by go_num, HR2, HO, HB, HFL2⟩
    case measure => simp [intOf]; omega
  ·obtain rfl : j = k.len := by omega
   have i2 : ¬ (k.len : Int) < (k.len : Int) := by omega
   have HFE : Hid (F = red18 V18 k) := hHd (by rw [HR.out, drop_len18, show red18 V18 .nil = .nil from rfl, Fr.app_nil])
   obtain ⟨A3, c3, rfl⟩ := HO.out.shape
   obtain ⟨n, hn⟩ : ∃ n, n = F.len := ⟨_, rfl⟩
   have HN := hHd hn
   rw [← hn] at HB HO
   clear hn
   have V9 : Veil18k (Blk (set6 w7 (w.heap.size + 1) (.string (txt ka.name)) (.string (txt ka.key)) (.int .i64 ka.kind) (.int .u64 (ka.num : Int)) (.string (txt ka.text)) (.slice A3 n c3)) (w.heap.size + 1) 42 (cN ka (.slice A3 n c3)) ∧ LieP 0 w.heap.size (set6 w7 (w.heap.size + 1) (.string (txt ka.name)) (.string (txt ka.key)) (.int .i64 ka.kind) (.int .u64 (ka.num : Int)) (.string (txt ka.text)) (.slice A3 n c3)) (ndC ka (.slice A3 n c3)) (ka, F) ∧ Below w.heap.size w (set6 w7 (w.heap.size + 1) (.string (txt ka.name)) (.string (txt ka.key)) (.int .i64 ka.kind) (.int .u64 (ka.num : Int)) (.string (txt ka.text)) (.slice A3 n c3))) := .mk
    ⟨HB.out.2.1.set6 _ _ _ _ _ _, ((LieP.make (a := ka) HO.out.row).set6 (Nat.zero_le _) (by omega) _ _ _ _ _ _).after (by omega), HB.out.2.2.2.trans (set6_below (by omega))⟩
   obtain ⟨y0, y1, y2, y3, y4, y5⟩ := cl6 HB.out.2.2.1
   have fz0 : (w7).frozen? ⟨w.heap.size + 1, 0, none⟩ = false := HB.out.2.1.frozen 0
   have fq0 := (HB.out.2.1.cell 0).trans rfl
   have fz1 : (w7).frozen? ⟨w.heap.size + 1, 1, none⟩ = false := HB.out.2.1.frozen 1
   have fq1 := (HB.out.2.1.cell 1).trans rfl
   have fz2 : (w7).frozen? ⟨w.heap.size + 1, 2, none⟩ = false := HB.out.2.1.frozen 2
   have fq2 := (HB.out.2.1.cell 2).trans rfl
   have fz3 : (w7).frozen? ⟨w.heap.size + 1, 3, none⟩ = false := HB.out.2.1.frozen 3
   have fq3 := (HB.out.2.1.cell 3).trans rfl
   have fz4 : (w7).frozen? ⟨w.heap.size + 1, 4, none⟩ = false := HB.out.2.1.frozen 4
   have fq4 := (HB.out.2.1.cell 4).trans rfl
   have fz5 : (w7).frozen? ⟨w.heap.size + 1, 5, none⟩ = false := HB.out.2.1.frozen 5
   have fq5 := (HB.out.2.1.cell 5).trans rfl
   clear HB HO HR hlt
   go_wp2_with fail
   refine bodyPost_ret (results_cell_row rfl _ _ (w.heap.size + 1) 42 _ (0, 0) _ rfl V9.out.1 Tryz.underlying42 rfl (by kernel_rfl)) rfl ?_
   rw [← HKA.out, ← HFE.out]
   exact ⟨_, rfl, V9.out.2.1, V9.out.2.2⟩
theorem rkid18_any (k : Fo) : KidAt18 k := Fo.byKids (P := KidAt18) rkid_row18 k
end
end Go.Proofs.YtleidkpdpabkpaaGreatDoor

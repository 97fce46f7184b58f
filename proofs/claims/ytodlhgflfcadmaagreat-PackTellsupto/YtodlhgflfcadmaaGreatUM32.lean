/- VarRef TlvAll TlvRight TlvFnB -/
import Derived.Test.YtodlhgflfcadmaaGreatUM31
set_option linter.unusedSimpArgs false
set_option linter.unusedVariables false
set_option maxRecDepth 100000
set_option maxHeartbeats 8000000
namespace Go.Proofs.YtodlhgflfcadmaaGreat
open Go.RowKit
section
attribute [local go_sem ↓] Go.wp_at_zero Go.wp_at_succ
theorem txt_append (a b : List UInt8) : txt a ++ txt b = txt (a ++ b) := by
 apply txt_ext
 rw [ByteArray.data_append, Array.toList_append, txt_data, txt_data, txt_data]
theorem lit1 (w : World) (b : UInt8) : Rd (w.alloc (.cells #[byteV b] 5)) w.heap.size (.slice (some ⟨w.heap.size, 0, none⟩) 1 1) [b] :=
 Rd.of_blk (l := [b]) (Blk.new w 5 _) (by simp)
def RPutPost (f x : Nat) (w : World) (r : Ending) (w' : World) : Prop := r = .returned (.string (txt (encV f x))) ∧ Below w.heap.size w w'
theorem group_byte (x : Nat) : IntKind.u8.wrap (IntKind.u8.wrap ((x : Int).tmod 128) + 128) = ((UInt8.ofNat (x % 128 + 128)).toNat : Int) := by
 have ht : (x : Int).tmod 128 = ((x % 128 : Nat) : Int) := Int.tmod_eq_emod_of_nonneg (by omega)
 have hq : x % 128 < 128 := Nat.mod_lt _ (by decide)
 rw [ht, ofNat_toNat, IntKind.wrap_u8, IntKind.wrap_u8]
 generalize x % 128 = q at hq
 omega
theorem group_rest (x : Nat) (h : x < 18446744073709551616) : IntKind.u64.wrap ((x : Int) / 128) = ((x / 128 : Nat) : Int) := by
 rw [IntKind.wrap_u64]; omega
theorem rput_any (f : Nat) (hf : f ≤ 100) : ∀ (x : Nat) (w : World), x < 128 ^ (f + 1) → x < 18446744073709551616 → Calls Tryz.prog 23 #[.int .u64 (x : Int)] w (RPutPost f x w) := by
 induction f with
 | zero =>
  intro x w h1 h2
  have hx : x < 128 := by simpa using h1
  have hst : (convert 30 9 (.slice (some ⟨w.heap.size, 0, none⟩) 1 1)).run Tryz.prog (w.alloc (.cells #[.int .u8 (x : Int)] 5)) = .ok (.string (txt [UInt8.ofNat x])) (w.alloc (.cells #[.int .u8 (x : Int)] 5)) := by
   have hb : byteV (UInt8.ofNat x) = .int .u8 (x : Int) := by unfold byteV; rw [ofNat_toNat]; congr 1; omega
   rw [← hb]
   exact str_of (lit1 w _)
  have HE := hHd (encV_small 0 x hx)
  clear h1 h2
  go_enter Tryz.func23, Tryz.ntmps23
  go_wp2_with fail
  go_ret
  exact ⟨by rw [HE.out]; rfl, bAl⟩
 | succ f ih =>
  intro x w h1 h2
  by_cases hx : x < 128
  ·have hst : (convert 30 9 (.slice (some ⟨w.heap.size, 0, none⟩) 1 1)).run Tryz.prog (w.alloc (.cells #[.int .u8 (x : Int)] 5)) = .ok (.string (txt [UInt8.ofNat x])) (w.alloc (.cells #[.int .u8 (x : Int)] 5)) := by
    have hb : byteV (UInt8.ofNat x) = .int .u8 (x : Int) := by unfold byteV; rw [ofNat_toNat]; congr 1; omega
    rw [← hb]
    exact str_of (lit1 w _)
   have HE := hHd (encV_small (f + 1) x hx)
   clear h1 h2 ih
   go_enter Tryz.func23, Tryz.ntmps23
   go_wp2_with fail
   go_ret
   exact ⟨by rw [HE.out]; rfl, bAl⟩
  ·have HE := hHd (encV_big f x hx)
   have hq : x / 128 < 128 ^ (f + 1) := by rw [Nat.pow_succ] at h1; omega
   obtain ⟨b, hb⟩ : ∃ b, b = UInt8.ofNat (x % 128 + 128) := ⟨_, rfl⟩
   obtain ⟨E, hE⟩ : ∃ E, E = encV f (x / 128) := ⟨_, rfl⟩
   have hcat : ¬ 9223372036854775807 < (txt [b]).size + (txt E).size := by
    have h := (encV_length f (x / 128)).2
    rw [txt_size, txt_size, hE]
    simp only [List.length_cons, List.length_nil]
    omega
   have hv := group_byte x
   rw [← hb] at hv
   have HV := hHd hv
   have HEE := hHd hE
   have HBB := hHd hb
   have HR := hHd (group_rest x h2)
   have HI : Hid (∀ (W : World) (xI : Int), xI = ((x / 128 : Nat) : Int) → Calls Tryz.prog 23 #[.int .u64 xI] W (RPutPost f (x / 128) W)) := fun W xI e => by
    rw [e]; exact ih (by omega) (x / 128) W hq (by omega)
   clear ih h1 hq h2 hv hE hb
   go_enter Tryz.func23, Tryz.ntmps23
   go_wp2_with fail
   refine wp_region_noPanic ?_
   refine wp_region_held_drew (S := fun _ => True) (by kernel_rfl) trivial (fun hS => ?_)
   refine tkH 0 hS ?_
   refine tkH 1 hS ?_
   refine tkH 2 hS ?_
   refine tkH 3 hS ?_
   refine tkH 6 hS ?_
   refine tkH 7 hS ?_
   refine rdy [4, 8] (rdC (fun K hK => ?st_0) (rdC (fun K hK => ?st_1) .nil))
   case' st_0 =>
    have hv := HV.out
    go_simp
    clear hv
    refine hK.out _ _ ?s_0 (fun hS => ?_)
    case s_0 => (exact hS)
    clear hK K
    (try simp only [Act.put, layS])
    refine held_more (S' := fun w' => Rd w' w.heap.size (.slice (some ⟨w.heap.size, 0, none⟩) 1 1) [b]) (fun _ _ => trivial) _ _ _ _ ?_
    replace hS := lit1 w.drew (b)
    refine tkH 5 hS ?_ (hy := fun w hSw => by have hc : (convert 30 9 _).run Tryz.prog _ = .ok (.string (txt [b])) _ := str_of hSw; (go_simp <;> with_reducible rfl))
    refine rdy1 8 fun K hK => ?_
    go_simp
    refine (HI.out _ _ HR.out).mono ?_
    rintro r w8 ⟨rfl, hb8⟩
    rw [← HEE.out]
    go_wp2_with fail
    refine hK.out _ _ ?s_2 (fun hS => ?_)
    case s_2 => (exact hS.below' hb8)
    clear hK K
    (try simp only [Act.put, layS])
    refine tkH 9 hS ?_
    refine tkH 10 hS ?_
    refine wpAnyH_done (by kernel_rfl) ?_ _
    refine NoPanic.normal ?_
   case' st_1 =>
    go_simp
    refine (HI.out _ _ HR.out).mono ?_
    rintro r w8 ⟨rfl, hb8⟩
    rw [← HEE.out]
    go_wp2_with fail
    refine hK.out _ _ ?s_1 (fun hS => ?_)
    case s_1 => (exact hS)
    clear hK K
    (try simp only [Act.put, layS])
    refine rdy1 4 fun K hK => ?_
    have hv := HV.out
    go_simp
    clear hv
    refine hK.out _ _ ?s_3 (fun hS => ?_)
    case s_3 => (exact hS)
    clear hK K
    (try simp only [Act.put, layS])
    refine held_more (S' := fun w' => Rd w' w8.heap.size (.slice (some ⟨w8.heap.size, 0, none⟩) 1 1) [b]) (fun _ _ => trivial) _ _ _ _ ?_
    replace hS := lit1 w8 (b)
    refine tkH 5 hS ?_ (hy := fun w hSw => by have hc : (convert 30 9 _).run Tryz.prog _ = .ok (.string (txt [b])) _ := str_of hSw; (go_simp <;> with_reducible rfl))
    refine tkH 9 hS ?_
    refine tkH 10 hS ?_
    refine wpAnyH_done (by kernel_rfl) ?_ _
    refine NoPanic.normal ?_
   ·have hbel : Below w.heap.size w w8 := (Below.refl _ _).drew.trans (hb8.mono (Nat.le_refl _))
    have hs8 := hb8.size
    go_wp2_with fail
    go_ret
    exact ⟨by rw [HE.out, ← HBB.out, ← HEE.out]; exact congrArg (fun s => Ending.returned (.string s)) (txt_append [b] E), hbel.alloc hs8 _⟩
   ·have hbel : Below w.heap.size w w8 := (((Below.refl _ _).drew.alloc (Nat.le_refl _) _).trans (hb8.mono (by simp)))
    go_wp2_with fail
    go_ret
    exact ⟨by rw [HE.out, ← HBB.out, ← HEE.out]; exact congrArg (fun s => Ending.returned (.string s)) (txt_append [b] E), hbel⟩
end
def AllPost (f : Fo) (w : World) (r : Ending) (w' : World) : Prop := r = .returned (.string (txt f.all)) ∧ Below w.heap.size w w'
theorem pow_ten' {x : Nat} (h : x < 18446744073709551616) : x < 128 ^ (9 + 1) := by
 have : (18446744073709551616 : Nat) < 128 ^ (9 + 1) := by decide
 omega
theorem rput_at (x : Nat) (xI : Int) (P : List UInt8) (w : World) (h : x < 18446744073709551616) (e : xI = (x : Int)) (hP : P = encV 9 x) :
  Calls Tryz.prog 23 #[.int .u64 xI] w fun r w' => r = .returned (.string (txt P)) ∧ Below w.heap.size w w' := by
 subst e hP
 exact rput_any 9 (by omega) x w (pow_ten' h) h
theorem Fo.all_take (j : Nat) {f : Fo} {t : Nat} {d : List UInt8} {k : Fo} (h : Fo.take (j + 1) f = (Fo.take j f).app (.cons t d k .nil)) :
  (Fo.take (j + 1) f).all = (Fo.take j f).all ++ ((encV 9 t ++ encV 9 (Fo.inn t d k.all).length) ++ Fo.inn t d k.all) := by
 rw [h, Fo.all_app]
 simp only [Fo.all, List.append_nil, List.append_assoc]
theorem Fo.all_take_le (j : Nat) (f : Fo) : (Fo.take j f).all.length ≤ f.all.length := by
 have h := Fo.all_app (Fo.take j f) (Fo.drop j f)
 rw [Fo.take_app_drop] at h
 rw [h, List.length_append]; omega
theorem all_any (f : Fo) : ∀ (w : World) (v : Value), FV DataR w (Lo w) v f → f.sz ≤ 1099511627776 → Calls Tryz.prog 38 #[v] w (AllPost f w) := by
 refine Fo.byKids (P := fun f => ∀ (w : World) (v : Value), FV DataR w (Lo w) v f → f.sz ≤ 1099511627776 → Calls Tryz.prog 38 #[v] w (AllPost f w)) ?_ f
 clear f
 intro f hkids w v hv hsz
 obtain ⟨A, c, rfl⟩ := hv.shape
 have hws := f.wt_le_sz
 have hlw := f.len_le_wt
 have hal := f.all_le
 have hlen40 : f.len ≤ 1099511627776 := by omega
 have hall : f.all.length ≤ 22000000000000 := by omega
 have HK : Hid (Fo.kidsAll (fun f => ∀ (w : World) (v : Value), FV DataR w (Lo w) v f → f.sz ≤ 1099511627776 → Calls Tryz.prog 38 #[v] w (AllPost f w)) f) := hHd hkids
 clear hkids hws hlw hal
 go_enter Tryz.func38, Tryz.ntmps38
 go_wp2
 go_loopw [3, 4] (fun u i wr => ∃ (j : Nat) (T : List UInt8), j ≤ f.len ∧ i = .int .i64 (j : Int) ∧ u = .string (txt T) ∧ Hid (T = (Fo.take j f).all) ∧ Below w.heap.size w wr) (fun _ i _ => f.len - (intOf i).toNat)
 case atStart => exact ⟨0, [], Nat.zero_le _, rfl, rfl, hHd rfl, Below.refl _ _⟩
 case round =>
  obtain ⟨j, T, hj, rfl, rfl, HT, hB⟩ := hrel
  by_cases hlt : j < f.len
  ·obtain ⟨b, o, c', t, d, k, hve, hcap, hS, hdr, htk, ht64, hc0, ⟨dv, hc1, hdv⟩, ⟨kv, hc2, hkv⟩⟩ := hv.at hlt
   injection hve with e1 e2 e3
   subst e1 e3
   have hSb : b < w.heap.size := hS
   have hdv' : dv = .string (txt d) := hdv
   subst hdv'
   have hdrop : (Fo.drop j f).sz ≤ f.sz := by
    have h := Fo.sz_app (Fo.take j f) (Fo.drop j f)
    rw [Fo.take_app_drop] at h
    omega
   rw [hdr] at hdrop
   simp only [Fo.sz] at hdrop
   have hIH : ∀ (w : World) (v : Value), FV DataR w (Lo w) v k → k.sz ≤ 1099511627776 → Calls Tryz.prog 38 #[v] w (AllPost k w) := by
    have h := Fo.kidsAll_drop j HK.out
    rw [hdr] at h
    exact h.1
   have hks40 : k.sz ≤ 1099511627776 := by omega
   have hkv2 : FV DataR wr (Lo wr) kv k := hkv.kept stays_R (fun g hg => hB.block g hg) (fun _ hg => Nat.lt_of_lt_of_le hg hB.size)
   have HI := hHd (hIH wr kv hkv2 hks40)
   obtain ⟨P, hP⟩ : ∃ P, P = encV 9 t := ⟨_, rfl⟩
   obtain ⟨I, hI⟩ : ∃ I, I = Fo.inn t d k.all := ⟨_, rfl⟩
   obtain ⟨L, hL⟩ : ∃ L, L = encV 9 I.length := ⟨_, rfl⟩
   obtain ⟨PL, hPL⟩ : ∃ PL, PL = P ++ L := ⟨_, rfl⟩
   obtain ⟨PLI, hPLI⟩ : ∃ PLI, PLI = PL ++ I := ⟨_, rfl⟩
   obtain ⟨T', hT'⟩ : ∃ T', T' = T ++ PLI := ⟨_, rfl⟩
   have hTn : T' = (Fo.take (j + 1) f).all := by rw [Fo.all_take j htk, hT', hPLI, hPL, hL, hP, hI, HT.out]
   have hTl : T'.length ≤ f.all.length := by rw [hTn]; exact Fo.all_take_le _ _
   have l1 : T'.length = T.length + PLI.length := by rw [hT', List.length_append]
   have l2 : PLI.length = PL.length + I.length := by rw [hPLI, List.length_append]
   have l3 : PL.length = P.length + L.length := by rw [hPL, List.length_append]
   have x1 : txt P ++ txt L = txt PL := by rw [hPL]; exact txt_append P L
   have x2 : txt PL ++ txt I = txt PLI := by rw [hPLI]; exact txt_append PL I
   have x3 : txt T ++ txt PLI = txt T' := by rw [hT']; exact txt_append T PLI
   have s1 := txt_size P
   have s2 := txt_size L
   have s3 := txt_size PL
   have s4 := txt_size I
   have s5 := txt_size PLI
   have s6 := txt_size T
   have c1 : ¬ 9223372036854775807 < P.length + L.length := by omega
   have c2 : ¬ 9223372036854775807 < PL.length + I.length := by omega
   have c3 : ¬ 9223372036854775807 < T.length + PLI.length := by omega
   have hI64 : I.length < 18446744073709551616 := by omega
   have hI63 : I.length ≤ 22000000000000 := by omega
   have HTN := hHd hTn
   have HP := hHd hP
   have HL := hHd hL
   have HT64 := hHd ht64
   have HI64 := hHd hI64
   have i1 : (0 : Int) ≤ (j : Int) := by omega
   have i2 : (j : Int) < (f.len : Int) := by omega
   have hC0 : wr.cell? ⟨b, o + j * 3, none⟩ = some (.int .u64 (t : Int)) := (hB.cell (p := ⟨b, o + j * 3, none⟩) hSb).trans hc0
   have hC1 : wr.cell? ⟨b, o + j * 3 + 1, none⟩ = some (.string (txt d)) := (hB.cell (p := ⟨b, o + j * 3 + 1, none⟩) hSb).trans hc1
   have hC2 : wr.cell? ⟨b, o + j * 3 + 2, none⟩ = some kv := (hB.cell (p := ⟨b, o + j * 3 + 2, none⟩) hSb).trans hc2
   clear hIH hkv hkv2 hdr htk hc0 hc1 hc2 e2 hS hdrop hsz hTl l1 l2 l3 hP hL hPL hPLI hT' hTn ht64 hI64 hdv
   by_cases hodd : t % 2 = 1
   ·have hb : ((t : Int) % 2 == 1) = true := by
     have h : (t : Int) % 2 = 1 := by omega
     rw [h]; rfl
    have hIk : I = k.all := by rw [hI]; unfold Fo.inn; rw [if_pos hodd]
    have HIK := hHd hIk
    clear hodd hI hIk
    go_wp2_with fail
    refine HI.out.mono ?_
    rintro r w6 ⟨rfl, hb6⟩
    rw [← HIK.out]
    have hB6 := hB.trans (hb6.mono hB.size)
    have hC6 : w6.cell? ⟨b, o + j * 3, none⟩ = some (.int .u64 (t : Int)) := (hb6.cell (p := ⟨b, o + j * 3, none⟩) (Nat.lt_of_lt_of_le hSb hB.size)).trans hC0
    clear hb6 hB hC0 hC1 hC2
    go_wp2_with fail
    refine (rput_at t _ P _ HT64.out rfl HP.out).mono ?_
    rintro r w7 ⟨rfl, hb7⟩
    have hB7 := hB6.trans (hb7.mono hB6.size)
    clear hb7 hB6 hC6
    go_wp2_with fail
    refine (rput_at I.length _ L _ HI64.out rfl HL.out).mono ?_
    rintro r w8 ⟨rfl, hb8⟩
    have hB8 := hB7.trans (hb8.mono hB7.size)
    clear hb8 hB7
    go_wp2
    go_roundw
    case rel => exact ⟨j + 1, T', by omega, by go_num, rfl, HTN, hB8⟩
    case measure => simp [intOf]; omega
   ·have hb : ((t : Int) % 2 == 1) = false := by
     have h : (t : Int) % 2 = 0 := by omega
     rw [h]; rfl
    have hId : I = d := by rw [hI]; unfold Fo.inn; rw [if_neg hodd]
    subst hId
    clear hodd hI
    go_wp2_with fail
    refine (rput_at t _ P _ HT64.out rfl HP.out).mono ?_
    rintro r w7 ⟨rfl, hb7⟩
    have hB7 := hB.trans (hb7.mono hB.size)
    clear hb7 hB hC0 hC1 hC2
    go_wp2_with fail
    refine (rput_at I.length _ L _ HI64.out rfl HL.out).mono ?_
    rintro r w8 ⟨rfl, hb8⟩
    have hB8 := hB7.trans (hb8.mono hB7.size)
    clear hb8 hB7
    go_wp2
    go_roundw
    case rel => exact ⟨j + 1, T', by omega, by go_num, rfl, HTN, hB8⟩
    case measure => simp [intOf]; omega
  ·obtain rfl : j = f.len := by omega
   have hTe : T = f.all := by rw [HT.out, Fo.take_all]
   subst hTe
   clear hlt
   go_wp2
   go_ret
   exact ⟨rfl, hB⟩
def RightPost (f : Fo) (deep : Nat) (w : World) (r : Ending) (w' : World) : Prop := r = .returned (.bool (Fo.right deep f)) ∧ Below w.heap.size w w'
theorem Fo.right_at (deep j : Nat) {f : Fo} {t : Nat} {d : List UInt8} {k : Fo} (h : Fo.drop j f = .cons t d k (Fo.drop (j + 1) f)) :
  Fo.right deep f = (Fo.right deep (Fo.take j f) && (decide (deep ≤ 6) && (if t % 2 = 1 then d.isEmpty else k.len == 0) && Fo.right (deep + 1) k && Fo.right deep (Fo.drop (j + 1) f))) := by
 conv => lhs; rw [← Fo.take_app_drop j f, Fo.right_app, h]
 rfl
theorem Fo.right_take (deep j : Nat) {f : Fo} {t : Nat} {d : List UInt8} {k : Fo} (h : Fo.take (j + 1) f = (Fo.take j f).app (.cons t d k .nil)) :
  Fo.right deep (Fo.take (j + 1) f) = (Fo.right deep (Fo.take j f) && (decide (deep ≤ 6) && (if t % 2 = 1 then d.isEmpty else k.len == 0) && Fo.right (deep + 1) k)) := by
 rw [h, Fo.right_app]
 simp only [Fo.right, Bool.and_true]
theorem right_any (f : Fo) : ∀ (w : World) (v : Value) (deep : Nat) (dI : Int), FV DataR w (Lo w) v f → f.sz ≤ 1099511627776 → deep ≤ 7 → dI = (deep : Int) → Calls Tryz.prog 65 #[v, .int .i64 dI] w (RightPost f deep w) := by
 refine Fo.byKids (P := fun f => ∀ (w : World) (v : Value) (deep : Nat) (dI : Int), FV DataR w (Lo w) v f → f.sz ≤ 1099511627776 → deep ≤ 7 → dI = (deep : Int) → Calls Tryz.prog 65 #[v, .int .i64 dI] w (RightPost f deep w)) ?_ f
 clear f
 intro f hkids w v deep dI hv hsz hd7 hdI
 subst hdI
 obtain ⟨A, c, rfl⟩ := hv.shape
 have hws := f.wt_le_sz
 have hlw := f.len_le_wt
 have hlen40 : f.len ≤ 1099511627776 := by omega
 have HK : Hid (Fo.kidsAll (fun f => ∀ (w : World) (v : Value) (deep : Nat) (dI : Int), FV DataR w (Lo w) v f → f.sz ≤ 1099511627776 → deep ≤ 7 → dI = (deep : Int) → Calls Tryz.prog 65 #[v, .int .i64 dI] w (RightPost f deep w)) f) := hHd hkids
 clear hkids hws hlw
 by_cases hdl : 6 < deep ∧ 0 < f.len
 ·obtain ⟨h6, h0⟩ := hdl
  have hd6 : decide ((6 : Int) < (deep : Int)) = true := decide_eq_true (by omega)
  have hd0 : decide (0 < f.len) = true := decide_eq_true (by omega)
  have HR : Hid (Fo.right deep f = false) := hHd (by
   cases f with
   | nil => simp [Fo.len] at h0
   | cons t d k r => simp only [Fo.right]; rw [decide_eq_false (by omega)]; simp)
  clear h6 h0
  go_enter Tryz.func65, Tryz.ntmps65
  go_wp2
  go_ret
  exact ⟨by rw [HR.out]; rfl, Below.refl _ _⟩
 ·have hgo : decide ((6 : Int) < (deep : Int)) = false ∨ (decide ((6 : Int) < (deep : Int)) = true ∧ decide (0 < f.len) = false) := by
   by_cases h6 : 6 < deep
   ·exact .inr ⟨decide_eq_true (by omega), decide_eq_false (by omega)⟩
   ·exact .inl (decide_eq_false (by omega))
  have HDL : Hid (0 < f.len → deep ≤ 6) := hHd (by omega)
  have main : Calls Tryz.prog 65 #[.slice A f.len c, .int .i64 (deep : Int)] w (RightPost f deep w) := by
   rcases hgo with h6 | ⟨h6, h0⟩
   all_goals
    go_enter Tryz.func65, Tryz.ntmps65
    go_wp2
    go_loopw [5] (fun i wr => ∃ (j : Nat), j ≤ f.len ∧ i = .int .i64 (j : Int) ∧ Hid (Fo.right deep (Fo.take j f) = true) ∧ Below w.heap.size w wr) (fun i _ => f.len - (intOf i).toNat)
    case atStart => exact ⟨0, Nat.zero_le _, rfl, hHd rfl, Below.refl _ _⟩
    case round =>
     obtain ⟨j, hj, rfl, HR, hB⟩ := hrel
     by_cases hlt : j < f.len
     ·obtain ⟨b, o, c', t, d, k, hve, hcap, hS, hdr, htk, ht64, hc0, ⟨dv, hc1, hdv⟩, ⟨kv, hc2, hkv⟩⟩ := hv.at hlt
      injection hve with e1 e2 e3
      subst e1 e3
      have hSb : b < w.heap.size := hS
      have hdv' : dv = .string (txt d) := hdv
      subst hdv'
      have hdrop : (Fo.drop j f).sz ≤ f.sz := by
       have h := Fo.sz_app (Fo.take j f) (Fo.drop j f)
       rw [Fo.take_app_drop] at h
       omega
      rw [hdr] at hdrop
      simp only [Fo.sz] at hdrop
      have hIH := Fo.kidsAll_drop j HK.out
      rw [hdr] at hIH
      have hks40 : k.sz ≤ 1099511627776 := by omega
      have hkv2 : FV DataR wr (Lo wr) kv k := hkv.kept stays_R (fun g hg => hB.block g hg) (fun _ hg => Nat.lt_of_lt_of_le hg hB.size)
      have hdp6 : deep ≤ 6 := HDL.out (by omega)
      have HI := hHd (hIH.1 wr kv (deep + 1) ((deep : Int) + 1) hkv2 hks40 (by omega) (by omega))
      have HF : Hid (∀ s, (if t % 2 = 1 then d.isEmpty else k.len == 0) = s → s = false → Fo.right deep f = false) := hHd (fun s h1 h2 => by
       rw [Fo.right_at deep j hdr, h1, h2]; simp)
      have HF2 : Hid (Fo.right (deep + 1) k = false → Fo.right deep f = false) := hHd (fun h1 => by
       rw [Fo.right_at deep j hdr, h1]; simp)
      have HN : Hid ((if t % 2 = 1 then d.isEmpty else k.len == 0) = true → Fo.right (deep + 1) k = true → Fo.right deep (Fo.take (j + 1) f) = true) := hHd (fun h1 h2 => by
       rw [Fo.right_take deep j htk, h1, h2, HR.out, decide_eq_true hdp6]; rfl)
      have i1 : (0 : Int) ≤ (j : Int) := by omega
      have i2 : (j : Int) < (f.len : Int) := by omega
      have hC0 : wr.cell? ⟨b, o + j * 3, none⟩ = some (.int .u64 (t : Int)) := (hB.cell (p := ⟨b, o + j * 3, none⟩) hSb).trans hc0
      have hC1 : wr.cell? ⟨b, o + j * 3 + 1, none⟩ = some (.string (txt d)) := (hB.cell (p := ⟨b, o + j * 3 + 1, none⟩) hSb).trans hc1
      have hC2 : wr.cell? ⟨b, o + j * 3 + 2, none⟩ = some kv := (hB.cell (p := ⟨b, o + j * 3 + 2, none⟩) hSb).trans hc2
      obtain ⟨A2, c2, rfl⟩ := hkv.shape
      clear hIH hkv hkv2 hdr htk hc0 hc1 hc2 e2 hS hdrop hsz hdv ht64
      by_cases hodd : t % 2 = 1
      ·have hb : ((t : Int) % 2 == 1) = true := by
        have h : (t : Int) % 2 = 1 := by omega
        rw [h]; rfl
       rw [if_pos hodd] at HN
       have HF' := HF.out
       rw [if_pos hodd] at HF'
       have HFF := hHd HF'
       clear HF' HF hodd
       by_cases hd0 : d = []
       ·subst hd0
        have hnb := txt_none
        clear hd7
        go_wp2_with fail
        refine HI.out.mono ?_
        rintro r w6 ⟨rfl, hb6⟩
        have hB6 := hB.trans (hb6.mono hB.size)
        clear hb6 hB hC0 hC1 hC2
        cases hrk : Fo.right (deep + 1) k with
        | false =>
         have HZ := hHd (HF2.out hrk)
         clear hrk
         go_wp2
         go_ret
         exact ⟨by rw [HZ.out]; rfl, hB6⟩
        | true =>
         have HZ := hHd (HN.out rfl hrk)
         clear hrk
         go_wp2
         go_roundw
         case rel => exact ⟨j + 1, by omega, by go_num, HZ, hB6⟩
         case measure => simp [intOf]; omega
       ·have hnb := txt_some (l := d) (List.length_pos_iff.2 hd0)
        have HZ := hHd (HFF.out _ rfl (by simpa using hd0))
        clear hd0
        go_wp2
        go_ret
        exact ⟨by rw [HZ.out]; rfl, hB⟩
      ·have hb : ((t : Int) % 2 == 1) = false := by
        have h : (t : Int) % 2 = 0 := by omega
        rw [h]; rfl
       rw [if_neg hodd] at HN
       have HF' := HF.out
       rw [if_neg hodd] at HF'
       have HFF := hHd HF'
       clear HF' HF hodd
       by_cases hk0 : 0 < k.len
       ·have hkb : decide (0 < k.len) = true := decide_eq_true (by omega)
        have HZ := hHd (HFF.out _ rfl (by simp; omega))
        clear hk0
        go_wp2
        go_ret
        exact ⟨by rw [HZ.out]; rfl, hB⟩
       ·have hkb : decide (0 < k.len) = false := decide_eq_false (by omega)
        have HK0 : Hid ((k.len == 0) = true) := hHd (by simp; omega)
        clear hk0 hd7
        go_wp2_with fail
        refine HI.out.mono ?_
        rintro r w6 ⟨rfl, hb6⟩
        have hB6 := hB.trans (hb6.mono hB.size)
        clear hb6 hB hC0 hC1 hC2
        cases hrk : Fo.right (deep + 1) k with
        | false =>
         have HZ := hHd (HF2.out hrk)
         clear hrk
         go_wp2
         go_ret
         exact ⟨by rw [HZ.out]; rfl, hB6⟩
        | true =>
         have HZ := hHd (HN.out HK0.out hrk)
         clear hrk
         go_wp2
         go_roundw
         case rel => exact ⟨j + 1, by omega, by go_num, HZ, hB6⟩
         case measure => simp [intOf]; omega
     ·obtain rfl : j = f.len := by omega
      have hRe := HR.out
      rw [Fo.take_all] at hRe
      have HRE := hHd hRe
      clear hRe hlt
      go_wp2
      go_ret
      exact ⟨by rw [HRE.out]; rfl, hB⟩
  exact main
def Lt (B g : Nat) : Prop := g < B
def SelfC (w : World) (sb cb : Nat) : Prop := Blk w sb 139 #[.func (.func 90) #[] #[.pointer (some ⟨cb, 0, none⟩), .pointer (some ⟨sb, 0, none⟩)]]
def SoundP (f : Fo) (deep c0 cb : Nat) (w : World) (r : Ending) (w' : World) : Prop :=
 ∃ b, r = .returned (.bool b) ∧ b = (Fo.right deep f && decide (c0 + f.cnt ≤ 4096)) ∧ w.grownBy w' (some cb) ∧ (b = true → Blk w' cb 3 #[.int .i64 ((c0 + f.cnt : Nat) : Int)])
theorem grown_alloc {w w' : World} {cb : Nat} (h : w.grownBy w' (some cb)) (o : Obj) : w.grownBy (w'.alloc o) (some cb) := grown_below h bAl
def SoundAt (k : Fo) : Prop := ∀ (w : World) (v : Value) (B cb sb deep c0 : Nat) (dI : Int), FV DataI w (Lt B) v k → k.sz ≤ 1099511627776 → deep ≤ 7 → dI = (deep : Int) → c0 ≤ 4096 → B ≤ cb → B ≤ sb → B ≤ w.heap.size → cb ≠ sb →
  Blk w cb 3 #[.int .i64 (c0 : Int)] → SelfC w sb cb →
  Calls Tryz.prog 90 #[v, .int .i64 dI, .pointer (some ⟨cb, 0, none⟩), .pointer (some ⟨sb, 0, none⟩)] w (SoundP k deep c0 cb w)
theorem sound_any (f : Fo) : SoundAt f := by
 refine Fo.byKids (P := SoundAt) ?_ f
 clear f
 intro f hkids w v B cb sb deep c0 dI hv hsz hd7 hdI hc4 hBc hBs hBw hne hblk hself
 subst hdI
 obtain ⟨A, c, rfl⟩ := hv.shape
 have hws := f.wt_le_sz
 have hlw := f.len_le_wt
 have hlc := f.len_le_cnt
 have hlen40 : f.len ≤ 1099511627776 := by omega
 have HK : Hid (Fo.kidsAll SoundAt f) := hHd hkids
 have hcell : w.cell? ⟨cb, 0, none⟩ = some (.int .i64 (c0 : Int)) := by rw [hblk.cell]; rfl
 have hfz : w.frozen? ⟨cb, 0, none⟩ = false := hblk.frozen 0
 have hb1 := hblk.set_ 0 (.int .i64 ((c0 + f.len : Nat) : Int))
 have hb1' : Blk (w.setCell ⟨cb, 0, none⟩ (.int .i64 ((c0 : Int) + (f.len : Int)))) cb 3 #[.int .i64 ((c0 : Int) + (f.len : Int))] := hb1
 have hc1 : (w.setCell ⟨cb, 0, none⟩ (.int .i64 ((c0 : Int) + (f.len : Int)))).cell? ⟨cb, 0, none⟩ = some (.int .i64 ((c0 : Int) + (f.len : Int))) := by rw [hb1'.cell]; rfl
 have hg1 : w.grownBy (w.setCell ⟨cb, 0, none⟩ (.int .i64 ((c0 : Int) + (f.len : Int)))) (some cb) := grown_set _
 clear hkids hws hlw hb1 hlc
 by_cases hgt : 4096 < c0 + f.len
 ·have HP : Hid (SoundP f deep c0 cb w (.returned (.bool false)) (w.setCell ⟨cb, 0, none⟩ (.int .i64 ((c0 : Int) + (f.len : Int))))) := hHd (by
   refine ⟨false, rfl, ?_, hg1, fun h => by cases h⟩
   have := f.len_le_cnt
   rw [decide_eq_false (by omega), Bool.and_false])
  have hgt2 : decide ((4096 : Int) < (c0 : Int) + (f.len : Int)) = true := decide_eq_true (by omega)
  clear hgt hg1 hb1'
  go_enter Tryz.func90, Tryz.ntmps90
  go_wp2
  go_ret
  exact HP.out
 ·have hgt2 : decide ((4096 : Int) < (c0 : Int) + (f.len : Int)) = false := decide_eq_false (by omega)
  have hself1 : SelfC (w.setCell ⟨cb, 0, none⟩ (.int .i64 ((c0 : Int) + (f.len : Int)))) sb cb := hself.grown hg1 (by intro h; injection h with h; exact hne h.symm)
  go_enter Tryz.func90, Tryz.ntmps90
  go_wp2
  go_loopw [17] (fun i wr => ∃ (j q : Nat), j ≤ f.len ∧ i = .int .i64 (j : Int) ∧ q ≤ 4096 ∧ Hid (q + j = c0 + f.len + (Fo.take j f).cnt) ∧ Hid (Fo.right deep (Fo.take j f) = true) ∧ Hid (Blk wr cb 3 #[.int .i64 (q : Int)]) ∧ Hid (w.grownBy wr (some cb))) (fun i _ => f.len - (intOf i).toNat)
  case atStart => exact ⟨0, c0 + f.len, Nat.zero_le _, rfl, by omega, hHd rfl, hHd rfl, hHd (by rw [Int.natCast_add]; exact hb1'), hHd hg1⟩
  case round =>
   obtain ⟨j, q, hj, rfl, hq4, HQ, HR, HB, HG⟩ := hrel
   clear hcell hfz hc1 hgt2 hb1' hg1 hself1
   by_cases hlt : j < f.len
   ·obtain ⟨b, o, c', t, d, k, hve, hcap, hS, hdr, htk, ht64, hk0, ⟨dv, hk1, db, hdv, hdS⟩, ⟨kv, hk2, hkv⟩⟩ := hv.at hlt
    injection hve with e1 e2 e3
    subst e1 e3
    have hSb : b < B := hS
    obtain ⟨A1, c1, rfl⟩ : ∃ D cd, dv = .slice D d.length cd := by obtain ⟨D, cd, e, _⟩ := hdv; exact ⟨D, cd, e⟩
    obtain ⟨A2, c2, rfl⟩ := hkv.shape
    have hG := HG.out
    have hne0 : b ≠ cb := by omega
    have hbW : b < w.heap.size := by omega
    have z1 := hG.size
    have hC0 : wr.cell? ⟨b, o + j * 3, none⟩ = some (.int .u64 (t : Int)) := hG.cell hk0 (by simpa using hne0)
    have hC1 : wr.cell? ⟨b, o + j * 3 + 1, none⟩ = some (.slice A1 d.length c1) := hG.cell hk1 (by simpa using hne0)
    have hC2 : wr.cell? ⟨b, o + j * 3 + 2, none⟩ = some (.slice A2 k.len c2) := hG.cell hk2 (by simpa using hne0)
    have hdrop : (Fo.drop j f).sz ≤ f.sz := by
     have h := Fo.sz_app (Fo.take j f) (Fo.drop j f)
     rw [Fo.take_app_drop] at h
     omega
    rw [hdr] at hdrop
    simp only [Fo.sz] at hdrop
    have hIH : SoundAt k := by
     have h := Fo.kidsAll_drop j HK.out
     rw [hdr] at h
     exact h.1
    have hks40 : k.sz ≤ 1099511627776 := by omega
    have hright := Fo.right_at deep j hdr
    have hrtake := Fo.right_take deep j htk
    have hpe := pureB_eq t d k
    rw [← hpe] at hright hrtake
    have i1 : (0 : Int) ≤ (j : Int) := by omega
    have i2 : (j : Int) < (f.len : Int) := by omega
    have HRT := hHd hright
    have HRK := hHd hrtake
    have HKV := hHd hkv
    have HIH := hHd hIH
    have HCT : Hid ((Fo.take (j + 1) f).cnt = (Fo.take j f).cnt + (1 + k.cnt)) := hHd (by rw [htk, Fo.cnt_app]; simp [Fo.cnt])
    have HNE := hHd hne
    have HNE0 := hHd hne0
    clear hIH hkv hdr htk hk0 hk1 hk2 e2 hS hdrop hsz hright hrtake hpe hdv hdS ht64 hne hne0 HK
    by_cases h6 : 6 < deep
    ·have hd6 : decide ((6 : Int) < (deep : Int)) = true := decide_eq_true (by omega)
     have HP : Hid (SoundP f deep c0 cb w (.returned (.bool false)) (wr.alloc (.cells #[.int .u64 (t : Int), .slice A1 d.length c1, .slice A2 k.len c2] 48))) := hHd (by
      refine ⟨false, rfl, ?_, grown_alloc hG _, fun h => by cases h⟩
      rw [HRT.out, decide_eq_false (by omega : ¬ deep ≤ 6)]; simp)
     clear h6 hG
     go_wp2
     go_ret
     exact HP.out
    ·have hd6 : decide ((6 : Int) < (deep : Int)) = false := decide_eq_false (by omega)
     have hdp : deep ≤ 6 := by omega
     clear h6
     go_wp2_with fail
     refine (pure_any t d.length k.len A1 A2 c1 c2 _).mono ?_
     rintro r w1 ⟨rfl, hb1⟩
     have hGA := grown_alloc hG (.cells #[.int .u64 (t : Int), .slice A1 d.length c1, .slice A2 k.len c2] 48)
     have hG1 := grown_below hGA hb1
     have z2 := hb1.size
     simp only [World.size_alloc] at z2
     obtain ⟨pb, hpb⟩ : ∃ pb, pb = pureB t d.length k.len := ⟨_, rfl⟩
     rw [← hpb]
     have HPB := hHd hpb
     clear hpb
     cases pb with
     | false =>
      have HP : Hid (SoundP f deep c0 cb w (.returned (.bool false)) w1) := hHd (by
       refine ⟨false, rfl, ?_, hG1, fun h => by cases h⟩
       rw [HRT.out, ← HPB.out]; simp)
      clear hG hGA hG1 hb1 hC0 hC1 hC2
      go_wp2
      go_ret
      exact HP.out
     | true =>
      have hself1 : SelfC w1 sb cb := hself.grown hG1 (by intro h; injection h with h; exact HNE.out h.symm)
      have hsc : w1.cell? ⟨sb, 0, none⟩ = some (.func (.func 90) #[] #[.pointer (some ⟨cb, 0, none⟩), .pointer (some ⟨sb, 0, none⟩)]) := by rw [hself1.cell]; rfl
      have hI2 : w1.cell? ⟨wr.heap.size, 2, none⟩ = some (.slice A2 k.len c2) := (hb1.cell (p := ⟨wr.heap.size, 2, none⟩) (by simp)).trans (by rw [(Blk.new wr _ _).cell]; rfl)
      have hq1 : Blk w1 cb 3 #[.int .i64 (q : Int)] := (HB.out.alloc _).below hb1 (by have := HB.out.lt; simp; omega)
      have hkv1 : FV DataI w1 (Lt B) (.slice A2 k.len c2) k := HKV.out.kept stays_I (fun g hg => hG1.block g (by have : g < B := hg; omega) (by have : g < B := hg; simp; omega)) (fun _ h => h)
      have HI := hHd (HIH.out w1 (.slice A2 k.len c2) B cb sb (deep + 1) q ((deep : Int) + 1) hkv1 hks40 (by omega) (by omega) hq4 hBc hBs (by omega) HNE.out hq1 hself1)
      clear hG hGA hb1 hC0 hC1 hC2 hself1 hq1 hkv1
      go_wp2_with fail
      refine HI.out.mono ?_
      rintro r w2 ⟨b2, rfl, hb2, hg2, hcc⟩
      have hG2 := hG1.trans hg2
      have HB2 := hHd hb2
      have HCC := hHd hcc
      have HG2 := hHd hG2
      clear hb2 hcc hG2 hg2 hG1 hI2 hsc
      cases b2 with
      | false =>
       have HP : Hid (SoundP f deep c0 cb w (.returned (.bool false)) w2) := hHd (by
        refine ⟨false, rfl, ?_, HG2.out, fun h => by cases h⟩
        have h := HB2.out
        rw [HRT.out]
        cases h1 : Fo.right (deep + 1) k with
        | false => simp
        | true =>
         rw [h1, Bool.true_and] at h
         have h2 : ¬ q + k.cnt ≤ 4096 := of_decide_eq_false h.symm
         have h3 := HQ.out
         have h4 := HCT.out
         have h5 := Fo.cnt_take_le (j + 1) f
         have h6 := Fo.len_le_cnt (Fo.drop (j + 1) f)
         have h7 := Fo.len_drop (j + 1) f
         rw [show decide (c0 + f.cnt ≤ 4096) = false from decide_eq_false (by omega), Bool.and_false])
       go_wp2
       go_ret
       exact HP.out
      | true =>
       have h := HB2.out
       have hq' : q + k.cnt ≤ 4096 := by
        have h := h.symm
        rw [Bool.and_eq_true, decide_eq_true_eq] at h
        exact h.2
       have HR' : Hid (Fo.right deep (Fo.take (j + 1) f) = true) := hHd (by
        have h := h.symm
        rw [Bool.and_eq_true] at h
        rw [HRK.out, HR.out, ← HPB.out, h.1, decide_eq_true hdp]; rfl)
       have HQ' : Hid ((q + k.cnt) + (j + 1) = c0 + f.len + (Fo.take (j + 1) f).cnt) := hHd (by have h3 := HQ.out; have h4 := HCT.out; omega)
       have HBB := hHd (HCC.out rfl)
       clear h
       go_wp2
       go_roundw
       case rel => exact ⟨j + 1, q + k.cnt, by omega, by go_num, hq', HQ', HR', HBB, HG2⟩
       case measure => simp [intOf]; omega
   ·obtain rfl : j = f.len := by omega
    have hqq : q = c0 + f.cnt := by have h := HQ.out; rw [Fo.take_all] at h; omega
    have HP : Hid (SoundP f deep c0 cb w (.returned (.bool true)) wr) := hHd (by
     refine ⟨true, rfl, ?_, HG.out, fun _ => by rw [← hqq]; exact HB.out⟩
     have h := HR.out
     rw [Fo.take_all] at h
     rw [h, decide_eq_true (by omega)]; rfl)
    clear hlt hqq
    go_wp2
    go_ret
    exact HP.out
end Go.Proofs.YtodlhgflfcadmaaGreat

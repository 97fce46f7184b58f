/-
  What the document's answers for layer 2 compute (package tollbarref02: Put, Get and Take). No condition but those of each theorem.
-/
import Derived.Test.YtepcaaejadeklaaDoorOctRefB
import Derived.Test.YtepcaaejadeklaaDoorVarNum
import Derived.Test.YtepcaaejadeklaaDoorDrawn
import Derived.Deep.DrawnRows
import Derived.Outline
namespace Go.Proofs.YtepcaaejadeklaaDoor
open Go.RowKit
set_option linter.unusedSimpArgs false
attribute [local go_sem ↓] Go.wp_at_zero Go.wp_at_succ

theorem txt_append (a b : List UInt8) : txt a ++ txt b = txt (a ++ b) := by
  apply txt_ext
  rw [ByteArray.data_append, Array.toList_append, txt_data, txt_data, txt_data]
theorem lit1 (w : World) (b : UInt8) : Rd (w.alloc (.cells #[byteV b] 5)) w.heap.size (.slice (some ⟨w.heap.size, 0, none⟩) 1 1) [b] :=
  Rd.of_blk (l := [b]) (Blk.new w 5 _) (by simp)

def RPutPost (f x : Nat) (w : World) (r : Ending) (w' : World) : Prop := r = .returned (.string (txt (encV f x))) ∧ Below w.heap.size w w'

theorem group_byte (x : Nat) : IntKind.u8.wrap (IntKind.u8.wrap ((x : Int).tmod 128) + 128) = ((UInt8.ofNat (x % 128 + 128)).toNat : Int) := by
  have ht : (x : Int).tmod 128 = ((x % 128 : Nat) : Int) := Int.tmod_eq_emod_of_nonneg (by omega)
  have hq : x % 128 < 128 := Nat.mod_lt _ (by decide)
  rw [ht, ofNat_toNat, IntKind.wrap_u8, IntKind.wrap_u8]
  generalize x % 128 = q at hq
  omega
theorem group_rest (x : Nat) (h : x < 18446744073709551616) : IntKind.u64.wrap ((x : Int) / 128) = ((x / 128 : Nat) : Int) := by
  rw [IntKind.wrap_u64]; omega

set_option maxRecDepth 100000 in
theorem rput_any (f : Nat) (hf : f ≤ 100) : ∀ (x : Nat) (w : World), x < 128 ^ (f + 1) → x < 18446744073709551616 → Calls Tryd.prog 22 #[.int .u64 (x : Int)] w (RPutPost f x w) := by
  induction f with
  | zero =>
    intro x w h1 h2
    have hx : x < 128 := by simpa using h1
    have hst : (convert 22 9 (.slice (some ⟨w.heap.size, 0, none⟩) 1 1)).run Tryd.prog (w.alloc (.cells #[.int .u8 (x : Int)] 5)) = .ok (.string (txt [UInt8.ofNat x])) (w.alloc (.cells #[.int .u8 (x : Int)] 5)) := by
      have hb : byteV (UInt8.ofNat x) = .int .u8 (x : Int) := by unfold byteV; rw [ofNat_toNat]; congr 1; omega
      rw [← hb]
      exact str_of (lit1 w _)
    have HE := Lib.hid (encV_small 0 x hx)
    clear h1 h2
    go_enter Tryd.func22, Tryd.ntmps22
    go_wp2_with fail
    go_ret
    exact ⟨by rw [HE.out]; rfl, (Below.refl _ _).alloc (Nat.le_refl _) _⟩
  | succ f ih =>
    intro x w h1 h2
    by_cases hx : x < 128
    · have hst : (convert 22 9 (.slice (some ⟨w.heap.size, 0, none⟩) 1 1)).run Tryd.prog (w.alloc (.cells #[.int .u8 (x : Int)] 5)) = .ok (.string (txt [UInt8.ofNat x])) (w.alloc (.cells #[.int .u8 (x : Int)] 5)) := by
        have hb : byteV (UInt8.ofNat x) = .int .u8 (x : Int) := by unfold byteV; rw [ofNat_toNat]; congr 1; omega
        rw [← hb]
        exact str_of (lit1 w _)
      have HE := Lib.hid (encV_small (f + 1) x hx)
      clear h1 h2 ih
      go_enter Tryd.func22, Tryd.ntmps22
      go_wp2_with fail
      go_ret
      exact ⟨by rw [HE.out]; rfl, (Below.refl _ _).alloc (Nat.le_refl _) _⟩
    · have HE := Lib.hid (encV_big f x hx)
      have hq : x / 128 < 128 ^ (f + 1) := by rw [Nat.pow_succ] at h1; omega
      obtain ⟨b, hb⟩ : ∃ b, b = UInt8.ofNat (x % 128 + 128) := ⟨_, rfl⟩
      obtain ⟨E, hE⟩ : ∃ E, E = encV f (x / 128) := ⟨_, rfl⟩
      have hcat : ¬ 9223372036854775807 < (txt [b]).size + (txt E).size := by
        have h := (encV_length f (x / 128)).2
        rw [txt_size, txt_size, hE]
        simp only [List.length_cons, List.length_nil]
        omega
      have hv := group_byte x
      rw [← hb] at hv
      have HV := Lib.hid hv
      have HEE := Lib.hid hE
      have HBB := Lib.hid hb
      have HR := Lib.hid (group_rest x h2)
      have HI : Hid (∀ (W : World) (xI : Int), xI = ((x / 128 : Nat) : Int) → Calls Tryd.prog 22 #[.int .u64 xI] W (RPutPost f (x / 128) W)) := fun W xI e => by
        rw [e]; exact ih (by omega) (x / 128) W hq (by omega)
      clear ih h1 hq h2 hv hE hb
      go_enter Tryd.func22, Tryd.ntmps22
      go_wp2_with fail
      refine wp_region_noPanic ?_
      refine wp_region_held_drew (S := fun _ => True) (by kernel_rfl) trivial (fun hS => ?_)
      refine wpAnyH_take (i := 0) (oi := ?o1_0_1) (v := ?v1_0_1) ?i1_0_1 (by kernel_rfl) (by kernel_rfl) (by kernel_rfl) (fun _ _ _ h => h) (Or.inl ⟨?g1_0_1, ?y1_0_1⟩) hS ?_
      case i1_0_1 => simp only [List.getElem?_toArray, List.getElem?_cons_succ, List.getElem?_cons_zero]; rfl
      case g1_0_1 => rfl
      case y1_0_1 => (intro w hSw; (go_simp <;> with_reducible rfl))
      (try simp only [Act.put, List.setIfInBounds_toArray, List.set_cons_zero, List.set_cons_succ])
      refine wpAnyH_take (i := 1) (oi := ?o1_1_2) (v := ?v1_1_2) ?i1_1_2 (by kernel_rfl) (by kernel_rfl) (by kernel_rfl) (fun _ _ _ h => h) (Or.inl ⟨?g1_1_2, ?y1_1_2⟩) hS ?_
      case i1_1_2 => simp only [List.getElem?_toArray, List.getElem?_cons_succ, List.getElem?_cons_zero]; rfl
      case g1_1_2 => rfl
      case y1_1_2 => (intro w hSw; (go_simp <;> with_reducible rfl))
      (try simp only [Act.put, List.setIfInBounds_toArray, List.set_cons_zero, List.set_cons_succ])
      refine wpAnyH_take (i := 2) (oi := ?o1_2_3) (v := ?v1_2_3) ?i1_2_3 (by kernel_rfl) (by kernel_rfl) (by kernel_rfl) (fun _ _ _ h => h) (Or.inl ⟨?g1_2_3, ?y1_2_3⟩) hS ?_
      case i1_2_3 => simp only [List.getElem?_toArray, List.getElem?_cons_succ, List.getElem?_cons_zero]; rfl
      case g1_2_3 => rfl
      case y1_2_3 => (intro w hSw; (go_simp <;> with_reducible rfl))
      (try simp only [Act.put, List.setIfInBounds_toArray, List.set_cons_zero, List.set_cons_succ])
      refine wpAnyH_take (i := 3) (oi := ?o1_3_4) (v := ?v1_3_4) ?i1_3_4 (by kernel_rfl) (by kernel_rfl) (by kernel_rfl) (fun _ _ _ h => h) (Or.inl ⟨?g1_3_4, ?y1_3_4⟩) hS ?_
      case i1_3_4 => simp only [List.getElem?_toArray, List.getElem?_cons_succ, List.getElem?_cons_zero]; rfl
      case g1_3_4 => rfl
      case y1_3_4 => (intro w hSw; (go_simp <;> with_reducible rfl))
      (try simp only [Act.put, List.setIfInBounds_toArray, List.set_cons_zero, List.set_cons_succ])
      refine wpAnyH_take (i := 6) (oi := ?o1_6_5) (v := ?v1_6_5) ?i1_6_5 (by kernel_rfl) (by kernel_rfl) (by kernel_rfl) (fun _ _ _ h => h) (Or.inl ⟨?g1_6_5, ?y1_6_5⟩) hS ?_
      case i1_6_5 => simp only [List.getElem?_toArray, List.getElem?_cons_succ, List.getElem?_cons_zero]; rfl
      case g1_6_5 => rfl
      case y1_6_5 => (intro w hSw; (go_simp <;> with_reducible rfl))
      (try simp only [Act.put, List.setIfInBounds_toArray, List.set_cons_zero, List.set_cons_succ])
      refine wpAnyH_take (i := 7) (oi := ?o1_7_6) (v := ?v1_7_6) ?i1_7_6 (by kernel_rfl) (by kernel_rfl) (by kernel_rfl) (fun _ _ _ h => h) (Or.inl ⟨?g1_7_6, ?y1_7_6⟩) hS ?_
      case i1_7_6 => simp only [List.getElem?_toArray, List.getElem?_cons_succ, List.getElem?_cons_zero]; rfl
      case g1_7_6 => rfl
      case y1_7_6 => (intro w hSw; (go_simp <;> with_reducible rfl))
      (try simp only [Act.put, List.setIfInBounds_toArray, List.set_cons_zero, List.set_cons_succ])
      refine wpAnyH_ready (rs := [4, 8]) (by kernel_rfl) (by simp) ?_
      refine (AllReadyH.cons (o := ?o1_7_4) ?i1_7_4 (fun K hK => ?st1_7_4) (AllReadyH.cons (o := ?o1_7_8) ?i1_7_8 (fun K hK => ?st1_7_8) AllReadyH.nil))
      case i1_7_4 => simp only [List.getElem?_toArray, List.getElem?_cons_succ, List.getElem?_cons_zero]; rfl
      case i1_7_8 => simp only [List.getElem?_toArray, List.getElem?_cons_succ, List.getElem?_cons_zero]; rfl
      case' st1_7_4 =>
        rw [if_pos (by rfl)]
        have hv := HV.out
        go_simp
        clear hv
        refine hK.out _ _ ?s1_7_4 (fun hS => ?_)
        case s1_7_4 => (exact hS)
        clear hK K
        (try simp only [Act.put, List.setIfInBounds_toArray, List.set_cons_zero, List.set_cons_succ])
        refine held_more (S' := fun w' => Rd w' w.heap.size (.slice (some ⟨w.heap.size, 0, none⟩) 1 1) [b]) (fun _ _ => trivial) _ _ _ _ ?_
        replace hS := lit1 w.drew (b)
        refine wpAnyH_take (i := 5) (oi := ?o1_5_8) (v := ?v1_5_8) ?i1_5_8 (by kernel_rfl) (by kernel_rfl) (by kernel_rfl) (fun _ _ _ h => h) (Or.inl ⟨?g1_5_8, ?y1_5_8⟩) hS ?_
        case i1_5_8 => simp only [List.getElem?_toArray, List.getElem?_cons_succ, List.getElem?_cons_zero]; rfl
        case g1_5_8 => rfl
        case y1_5_8 => (intro w hSw; have hc : (convert 22 9 _).run Tryd.prog _ = .ok (.string (txt [b])) _ := str_of hSw; (go_simp <;> with_reducible rfl))
        (try simp only [Act.put, List.setIfInBounds_toArray, List.set_cons_zero, List.set_cons_succ])
        refine wpAnyH_ready (rs := [8]) (by kernel_rfl) (by simp) ?_
        refine (AllReadyH.cons (o := ?o1_9_8) ?i1_9_8 (fun K hK => ?st1_9_8) AllReadyH.nil)
        case i1_9_8 => simp only [List.getElem?_toArray, List.getElem?_cons_succ, List.getElem?_cons_zero]; rfl
        rw [if_pos (by rfl)]
        go_simp
        refine (HI.out _ _ HR.out).mono ?_
        rintro r w8 ⟨rfl, hb8⟩
        rw [← HEE.out]
        go_wp2_with fail
        refine hK.out _ _ ?s1_9_8 (fun hS => ?_)
        case s1_9_8 => (exact hS.below' hb8)
        clear hK K
        (try simp only [Act.put, List.setIfInBounds_toArray, List.set_cons_zero, List.set_cons_succ])
        refine wpAnyH_take (i := 9) (oi := ?o1_9_10) (v := ?v1_9_10) ?i1_9_10 (by kernel_rfl) (by kernel_rfl) (by kernel_rfl) (fun _ _ _ h => h) (Or.inl ⟨?g1_9_10, ?y1_9_10⟩) hS ?_
        case i1_9_10 => simp only [List.getElem?_toArray, List.getElem?_cons_succ, List.getElem?_cons_zero]; rfl
        case g1_9_10 => rfl
        case y1_9_10 => (intro w hSw; (go_simp <;> with_reducible rfl))
        (try simp only [Act.put, List.setIfInBounds_toArray, List.set_cons_zero, List.set_cons_succ])
        refine wpAnyH_take (i := 10) (oi := ?o1_10_11) (v := ?v1_10_11) ?i1_10_11 (by kernel_rfl) (by kernel_rfl) (by kernel_rfl) (fun _ _ _ h => h) (Or.inl ⟨?g1_10_11, ?y1_10_11⟩) hS ?_
        case i1_10_11 => simp only [List.getElem?_toArray, List.getElem?_cons_succ, List.getElem?_cons_zero]; rfl
        case g1_10_11 => rfl
        case y1_10_11 => (intro w hSw; (go_simp <;> with_reducible rfl))
        (try simp only [Act.put, List.setIfInBounds_toArray, List.set_cons_zero, List.set_cons_succ])
        refine wpAnyH_done (by kernel_rfl) ?_ _
        refine NoPanic.normal ?_
      case' st1_7_8 =>
        rw [if_pos (by rfl)]
        go_simp
        refine (HI.out _ _ HR.out).mono ?_
        rintro r w8 ⟨rfl, hb8⟩
        rw [← HEE.out]
        go_wp2_with fail
        refine hK.out _ _ ?s1_7_8 (fun hS => ?_)
        case s1_7_8 => (exact hS)
        clear hK K
        (try simp only [Act.put, List.setIfInBounds_toArray, List.set_cons_zero, List.set_cons_succ])
        refine wpAnyH_ready (rs := [4]) (by kernel_rfl) (by simp) ?_
        refine (AllReadyH.cons (o := ?o1_12_4) ?i1_12_4 (fun K hK => ?st1_12_4) AllReadyH.nil)
        case i1_12_4 => simp only [List.getElem?_toArray, List.getElem?_cons_succ, List.getElem?_cons_zero]; rfl
        rw [if_pos (by rfl)]
        have hv := HV.out
        go_simp
        clear hv
        refine hK.out _ _ ?s1_12_4 (fun hS => ?_)
        case s1_12_4 => (exact hS)
        clear hK K
        (try simp only [Act.put, List.setIfInBounds_toArray, List.set_cons_zero, List.set_cons_succ])
        refine held_more (S' := fun w' => Rd w' w8.heap.size (.slice (some ⟨w8.heap.size, 0, none⟩) 1 1) [b]) (fun _ _ => trivial) _ _ _ _ ?_
        replace hS := lit1 w8 (b)
        refine wpAnyH_take (i := 5) (oi := ?o1_5_13) (v := ?v1_5_13) ?i1_5_13 (by kernel_rfl) (by kernel_rfl) (by kernel_rfl) (fun _ _ _ h => h) (Or.inl ⟨?g1_5_13, ?y1_5_13⟩) hS ?_
        case i1_5_13 => simp only [List.getElem?_toArray, List.getElem?_cons_succ, List.getElem?_cons_zero]; rfl
        case g1_5_13 => rfl
        case y1_5_13 => (intro w hSw; have hc : (convert 22 9 _).run Tryd.prog _ = .ok (.string (txt [b])) _ := str_of hSw; (go_simp <;> with_reducible rfl))
        (try simp only [Act.put, List.setIfInBounds_toArray, List.set_cons_zero, List.set_cons_succ])
        refine wpAnyH_take (i := 9) (oi := ?o1_9_14) (v := ?v1_9_14) ?i1_9_14 (by kernel_rfl) (by kernel_rfl) (by kernel_rfl) (fun _ _ _ h => h) (Or.inl ⟨?g1_9_14, ?y1_9_14⟩) hS ?_
        case i1_9_14 => simp only [List.getElem?_toArray, List.getElem?_cons_succ, List.getElem?_cons_zero]; rfl
        case g1_9_14 => rfl
        case y1_9_14 => (intro w hSw; (go_simp <;> with_reducible rfl))
        (try simp only [Act.put, List.setIfInBounds_toArray, List.set_cons_zero, List.set_cons_succ])
        refine wpAnyH_take (i := 10) (oi := ?o1_10_15) (v := ?v1_10_15) ?i1_10_15 (by kernel_rfl) (by kernel_rfl) (by kernel_rfl) (fun _ _ _ h => h) (Or.inl ⟨?g1_10_15, ?y1_10_15⟩) hS ?_
        case i1_10_15 => simp only [List.getElem?_toArray, List.getElem?_cons_succ, List.getElem?_cons_zero]; rfl
        case g1_10_15 => rfl
        case y1_10_15 => (intro w hSw; (go_simp <;> with_reducible rfl))
        (try simp only [Act.put, List.setIfInBounds_toArray, List.set_cons_zero, List.set_cons_succ])
        refine wpAnyH_done (by kernel_rfl) ?_ _
        refine NoPanic.normal ?_
      · have hbel : Below w.heap.size w w8 := (Below.refl _ _).drew.trans (hb8.mono (Nat.le_refl _))
        have hs8 := hb8.size
        go_wp2_with fail
        go_ret
        exact ⟨by rw [HE.out, ← HBB.out, ← HEE.out]; exact congrArg (fun s => Ending.returned (.string s)) (txt_append [b] E), hbel.alloc hs8 _⟩
      · have hbel : Below w.heap.size w w8 := (((Below.refl _ _).drew.alloc (Nat.le_refl _) _).trans (hb8.mono (by simp)))
        go_wp2_with fail
        go_ret
        exact ⟨by rw [HE.out, ← HBB.out, ← HEE.out]; exact congrArg (fun s => Ending.returned (.string s)) (txt_append [b] E), hbel⟩

end Go.Proofs.YtepcaaejadeklaaDoor

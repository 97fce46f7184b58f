/- RngHeld VadDat EdvC PtvLay PtvBld -/
import Derived.Test.YtleidkpdpabkpaaGreatDoorAM22
import Derived.OrdersIn
import Derived.Shelf.Small.Wraps
import Derived.Shelf.Strings.SlTrimAscii
import Derived.Shelf.Strings.BuilderK
set_option linter.unusedSimpArgs false
set_option linter.unusedVariables false
set_option maxRecDepth 100000
set_option maxHeartbeats 8000000
namespace Go.Proofs.YtleidkpdpabkpaaGreatDoor
open Go.RowKit
abbrev wideR (ro : Option Nat) : Fence := { Fence.wide with round := ro }
section
variable {ro : Option Nat} {n : Nat} {P : Program} {ops : Array Oper} {Q : Exit → Act → World → Prop} {S : World → Prop}
def HeldI (ro : Option Nat) (n : Nat) (P : Program) (ops : Array Oper) (Q : Exit → Act → World → Prop) (D : List Nat) : (World → Prop) → Nat → Array Bool → Act → World → Prop
 | _, 0, listed, a, w => Region.ready .any ops listed = [] ∧ Q .normal a w
 | S, fuel + 1, listed, a, w => (Region.ready .any ops listed = [] → Q .normal a w) ∧
   ∀ i ∈ Region.ready .any ops listed, wpOpIn (wideR ro) n P ops Q i (fun a' w' => if D.contains i = true then HeldI ro n P ops Q D (fun _ => True) fuel (listed.setIfInBounds i true) a' w' else S w' ∧ HeldI ro n P ops Q D S fuel (listed.setIfInBounds i true) a' w') a w
variable {D : List Nat}
def waitB (ops : Array Oper) (D : List Nat) (listed : Array Bool) (i : Nat) (X : List Nat) : Bool :=
 X.all (fun x => !(listed.getD x true)) && X.all (fun x => x == i || ((ops[x]?).map (fun o => o.after.any (fun e => Region.binds .any e && X.contains e.on))).getD false) && D.all (fun d => X.contains d || listed.getD d true)
structure WaitX (ops : Array Oper) (D : List Nat) (listed : Array Bool) (i : Nat) (X : List Nat) : Prop where
 not : ∀ x ∈ X, listed.getD x true = false
 dep : ∀ x ∈ X, x ≠ i → ∃ o, ops[x]? = some o ∧ ∃ e ∈ o.after, Region.binds .any e = true ∧ e.on ∈ X
 all : ∀ d ∈ D, d ∈ X ∨ listed.getD d true = true
theorem WaitX.of {listed : Array Bool} {i : Nat} {X : List Nat} (h : waitB ops D listed i X = true) : WaitX ops D listed i X := by
 unfold waitB at h
 simp only [Bool.and_eq_true, List.all_eq_true] at h
 obtain ⟨⟨h1, h2⟩, h3⟩ := h
 refine ⟨fun x hx => by simpa using h1 x hx, fun x hx hne => ?_, fun d hd => by simpa using h3 d hd⟩
 have h := h2 x hx
 simp only [Bool.or_eq_true, beq_iff_eq, hne, false_or] at h
 cases ho : ops[x]? with
 | none => rw [ho] at h; cases h
 | some o =>
  rw [ho] at h
  simp only [Option.map_some, Option.getD_some, Array.any_eq_true', Bool.and_eq_true, List.contains_iff_mem] at h
  obtain ⟨e, he, hb, hm⟩ := h
  exact ⟨o, rfl, e, he, hb, hm⟩
theorem WaitX.ready {listed : Array Bool} {i j : Nat} {X : List Nat} (h : WaitX ops D listed i X) (hj : j ∈ Region.ready .any ops listed) (hne : j ≠ i) : j ∉ X := by
 intro hx
 obtain ⟨o, ho, e, he, hb, hm⟩ := h.dep j hx hne
 obtain ⟨_, o', ho', hall⟩ := mem_ready.1 hj
 rw [ho] at ho'
 injection ho' with ho'
 subst ho'
 have h1 := hall e he hb
 have h0 := h.not e.on hm
 by_cases hl : e.on < listed.size
 ·rw [Array.getD_eq_getD_getElem?, Array.getElem?_eq_getElem hl] at h0 h1
  simp only [Option.getD_some] at h0 h1
  rw [h0] at h1
  cases h1
 ·rw [Array.getD_eq_getD_getElem?, Array.getElem?_eq_none (by omega)] at h1
  cases h1
theorem WaitX.step {listed : Array Bool} {i j : Nat} {X : List Nat} (h : WaitX ops D listed i X) (hj : j ∈ Region.ready .any ops listed) (hne : j ≠ i) : WaitX ops D (listed.setIfInBounds j true) i X := by
 have hx := h.ready hj hne
 refine ⟨fun x hm => ?_, h.dep, fun d hd => ?_⟩
 ·rw [getD_set_ne true (fun e => hx (by rw [e]; exact hm))]
  exact h.not x hm
 ·rcases h.all d hd with h1 | h1
  ·exact .inl h1
  ·refine .inr ?_
   rcases Decidable.em (j = d) with e | e
   ·subst e
    have h0 := (mem_ready.1 hj).1
    rw [h1] at h0
    cases h0
   ·rw [getD_set_ne true e]; exact h1
def ReadyI (ro : Option Nat) (n : Nat) (P : Program) (ops : Array Oper) (Q : Exit → Act → World → Prop) (D : List Nat) (S : World → Prop) (fuel : Nat) (listed : Array Bool) (a : Act) (w : World) (rs : List Nat) : Prop :=
 ∀ i ∈ rs, wpOpIn (wideR ro) n P ops Q i (fun a' w' => if D.contains i = true then HeldI ro n P ops Q D (fun _ => True) fuel (listed.setIfInBounds i true) a' w' else S w' ∧ HeldI ro n P ops Q D S fuel (listed.setIfInBounds i true) a' w') a w
theorem ReadyI.nil {fuel : Nat} {listed : Array Bool} {a : Act} {w : World} : ReadyI ro n P ops Q D S fuel listed a w [] := fun _ h => by cases h
theorem wpOpIn_at {i : Nat} {o : Oper} {a : Act} {w : World} {K : Act → World → Prop} (ho : ops[i]? = some o) (h : if Region.wanted o (yielded ops a.tmps) = true then Oper.wpIn (wideR ro) n P o a w K Q else K (a.put o.dst undef) w) : wpOpIn (wideR ro) n P ops Q i K a w := by
 unfold wpOpIn
 simp only [ho]
 split at h
 ·rename_i hw; simp only [hw, if_true]; exact h
 ·rename_i hw
  have hw : Region.wanted o (yielded ops a.tmps) = false := by simpa using hw
  simp only [hw, Bool.false_eq_true, if_false]
  exact ⟨fun f _ => trivial, h⟩
theorem ReadyI.cons {fuel : Nat} {listed : Array Bool} {a : Act} {w : World} {i : Nat} {o : Oper} {rs : List Nat} (ho : ops[i]? = some o) (hd : D.contains i = false)
  (h : ∀ K' : Act → World → Prop, Shut (∀ a w, S w → (S w → HeldI ro n P ops Q D S fuel (listed.setIfInBounds i true) a w) → K' a w) → if Region.wanted o (yielded ops a.tmps) = true then Oper.wpIn (wideR ro) n P o a w K' Q else K' (a.put o.dst undef) w)
  (hs : ReadyI ro n P ops Q D S fuel listed a w rs) : ReadyI ro n P ops Q D S fuel listed a w (i :: rs) := fun j hj => by
 rcases List.mem_cons.1 hj with rfl | hj
 ·exact wpOpIn_at ho (h _ (fun a w hS hW => by rw [if_neg (by rw [hd]; decide)]; exact ⟨hS, hW hS⟩))
 ·exact hs j hj
end
def DatP (s : List UInt8) (w : World) (r : Ending) (w' : World) : Prop := ∃ v, r = .returned v ∧ DataI w' (MineI w.heap.size w') v s ∧ Below w.heap.size w w'
theorem DatP.from {s : List UInt8} {w W : World} {r : Ending} {w' : World} (h : DatP s W r w') (hb : Below w.heap.size w W) : DatP s w r w' := by
 obtain ⟨v, h1, ⟨db, h2, h3⟩, h4⟩ := h
 exact ⟨v, h1, ⟨db, h2, fun h0 => ⟨Nat.le_trans hb.size (h3 h0).1, (h3 h0).2⟩⟩, hb.trans (h4.mono hb.size)⟩
theorem datP_big {x n : Nat} {w : World} {r : Ending} {w' : World} (h : BigAny x n w r w') : DatP (bigB x n) w r w' := by
 obtain ⟨v, h1, h2, h3, h4⟩ := h
 exact ⟨v, h1, ⟨_, h2, fun h0 => ⟨Nat.le_refl _, h2.lt h0⟩⟩, h3⟩
theorem bytes_rd (w : World) (s : List UInt8) (e : TypeId) (n : Nat × Nat) (c : Nat) (hs : s.length ≤ 1048576) (hc : s.length ≤ c) : Rd (w.drew.alloc (.cells (bytesRow (txt s) c) e n)) w.heap.size (.slice (some ⟨w.heap.size, 0, none⟩) s.length c) s := by
 refine ⟨_, _, rfl, hc, by omega, fun _ => ⟨0, rfl, fun j b hj => ?_⟩⟩
 have hlt := (List.getElem?_eq_some_iff.1 hj).1
 have hb : (w.drew.alloc (.cells (bytesRow (txt s) c) e n)).heap[w.heap.size]? = some (.cells (bytesRow (txt s) c) e n) := heap_alloc_new w.drew _
 rw [Nat.zero_add, cell_of_row _ _ _ _ _ _ hb]
 unfold bytesRow
 have hd : (txt s).data = s.toArray := rfl
 rw [hd, Array.getElem?_append_left (by simpa using hlt)]
 simp [hj, byteV]
section
attribute [local go_sem] Oper.semAt_some
theorem Tryz.infoT18 : (Tryz.prog.info? 58).map (fun i => (i.zero, i.size, i.bytes)) = some (some (.agg #[.int .u64 0, .slice none 0 0, .slice none 0 0]), 3, 56) := by kernel_rfl
theorem zeroI18 : (Value.agg #[.int .u64 0, .slice none 0 0, .slice none 0 0]).cells.size = 3 := by kernel_rfl
theorem dataI_nil18 (w : World) (S : Nat → Prop) : DataI w S (.slice none 0 0) [] := ⟨0, Rd.nil _ _, fun h => absurd h (by simp)⟩
theorem own_datP18 {w w' : World} {base : Nat} {v : Value} {l : List UInt8} (h : Own w' base v l) (hl : l.length ≤ 140737488355328) (hb : w.heap.size ≤ base) (hB : Below w.heap.size w w') : DatP l w (.returned v) w' := by
 obtain ⟨d, h1, h2, h3⟩ := h.rd hl
 exact ⟨v, rfl, ⟨d, h3, fun h0 => ⟨Nat.le_trans hb h1, h3.lt h0⟩⟩, hB⟩
theorem own_lit18 (W : World) (base : Nat) (b d : UInt8) (hb : base ≤ W.heap.size) : Own (W.alloc (.cells #[byteV b, byteV d] 5)) base (.slice (some ⟨W.heap.size, 0, none⟩) 2 2) [b, d] :=
 ⟨rfl, .inr ⟨W.heap.size, 2, #[byteV b, byteV d], rfl, hb, heap_alloc_new W _, Nat.le_refl _, by unfold maxLen; decide, rfl, rfl⟩⟩
theorem strCells_txt18 (l : List UInt8) : Lib.strCells (txt l) = l.map byteV := by
 unfold Lib.strCells
 show ((txt l).data.toList).map _ = _
 rfl
theorem byt_text18 (a : NdD) (w : World) (h0 : 0 ≤ a.kind) (h1 : a.kind ≤ 255) (ht : a.text ≠ []) (hl : a.text.length ≤ 1048576) :
  Calls Tryz.prog 77 #[.agg #[.int .i64 a.kind, .int .u64 (a.num : Int), .string (txt a.text)]] w (DatP (UInt8.ofNat a.kind.toNat :: 1 :: a.text) w) := by
 obtain ⟨kb, hkb⟩ : ∃ b, b = UInt8.ofNat a.kind.toNat := ⟨_, rfl⟩
 have hkw := byte_kind18 h0 h1
 rw [← hkb] at hkw ⊢
 have e1 : (a.text == []) = false := by cases e : a.text with | nil => exact absurd e ht | cons => rfl
 have e2 : a.text.isEmpty = false := by cases e : a.text with | nil => exact absurd e ht | cons => rfl
 have tt : (txt a.text).toList = a.text := txt_toList _
 have HOW : Hid (Own ((w.alloc (.cells #[.int .i64 a.kind, .int .u64 (a.num : Int), .string (txt a.text)] 39)).alloc (.cells #[byteV kb, .int .u8 1] 5)) (w.heap.size + 1) (.slice (some ⟨w.heap.size + 1, 0, none⟩) 2 2) [kb, 1]) := hHd (by
  have h := own_lit18 (w.alloc (.cells #[.int .i64 a.kind, .int .u64 (a.num : Int), .string (txt a.text)] 39)) (w.heap.size + 1) kb 1 (by simp)
  rwa [show (w.alloc (.cells #[.int .i64 a.kind, .int .u64 (a.num : Int), .string (txt a.text)] 39)).heap.size = w.heap.size + 1 by simp] at h)
 have hb1 : Below w.heap.size w (w.alloc (.cells #[.int .i64 a.kind, .int .u64 (a.num : Int), .string (txt a.text)] 39)) := bAl
 have HB2 : Hid (Below w.heap.size w ((w.alloc (.cells #[.int .i64 a.kind, .int .u64 (a.num : Int), .string (txt a.text)] 39)).alloc (.cells #[byteV kb, .int .u8 1] 5))) := hHd (hb1.alloc hb1.size _)
 have hbx : Blk ((w.alloc (.cells #[.int .i64 a.kind, .int .u64 (a.num : Int), .string (txt a.text)] 39)).alloc (.cells #[byteV kb, .int .u8 1] 5)) w.heap.size 39 #[.int .i64 a.kind, .int .u64 (a.num : Int), .string (txt a.text)] := (Blk.new _ _ _).alloc _
 have q2 : ((w.alloc (.cells #[.int .i64 a.kind, .int .u64 (a.num : Int), .string (txt a.text)] 39)).alloc (.cells #[byteV kb, .int .u8 1] 5)).cell? ⟨w.heap.size, 2, none⟩ = some (.string (txt a.text)) := (hbx.cell 2).trans rfl
 have HTL := hHd hl
 have HSZ : Hid (w.heap.size + 1 ≤ ((w.alloc (.cells #[.int .i64 a.kind, .int .u64 (a.num : Int), .string (txt a.text)] 39)).alloc (.cells #[byteV kb, .int .u8 1] 5)).heap.size) := hHd (by simp)
 have hsz := txt_size a.text
 clear hkb h0 h1 ht hb1 hbx hl
 unfold byteV at q2 HOW HB2 HSZ
 go_enter Tryz.func77, Tryz.ntmps77
 go_wp2_with (at_builtin; refine Lib.wpList_append_own_string _ rfl (.tmp 17) (.tmp 19) 25 9 rfl (w.heap.size + 1) 5 _ Tryz.underlying25 Tryz.underlying9 rfl rfl rfl rfl _ 2 _ rfl HOW.out (txt a.text) rfl (by rw [hsz]; have := HTL.out; unfold maxLen; omega) (by rw [hsz]; have := HTL.out; omega) HSZ.out ?_)
 intro v9 w9 hown hgr _
 have hl9 : Own w9 (w.heap.size + 1) v9 (kb :: 1 :: a.text) := by
  unfold Own
  rw [strCells_txt18] at hown
  have e : (kb :: 1 :: a.text).length = 2 + a.text.length := by simp only [List.length_cons]; omega
  rw [e]
  exact hown
 have hb9 : Below w.heap.size w w9 := (HB2.out.grown hgr HB2.out.size fun b e => Nat.le_of_succ_le (World.ownsRow.lt HOW.out b e).1)
 have HD := hHd (own_datP18 (w := w) hl9 (by have := HTL.out; simp only [List.length_cons]; omega) (Nat.le_succ _) hb9)
 clear hown hgr hl9 hb9 q2 HOW
 go_wp2
 go_ret
 exact HD.out
theorem byt_num18 (a : NdD) (w : World) (h0 : 0 ≤ a.kind) (h1 : a.kind ≤ 255) (ht : a.text = []) (hn : a.num < 18446744073709551616) :
  Calls Tryz.prog 77 #[.agg #[.int .i64 a.kind, .int .u64 (a.num : Int), .string (txt a.text)]] w (DatP (UInt8.ofNat a.kind.toNat :: 0 :: leastB a.num) w) := by
 obtain ⟨kb, hkb⟩ : ∃ b, b = UInt8.ofNat a.kind.toNat := ⟨_, rfl⟩
 have hkw := byte_kind18 h0 h1
 rw [← hkb] at hkw ⊢
 have e1 : (a.text == []) = true := by rw [ht]; rfl
 have e2 : a.text.isEmpty = true := by rw [ht]; rfl
 have tt : (txt a.text).toList = a.text := txt_toList _
 have HX1 : Hid (Blk (w.alloc (.cells #[.int .i64 a.kind, .int .u64 (a.num : Int), .string (txt a.text)] 39)) w.heap.size 39 #[.int .i64 a.kind, .int .u64 (a.num : Int), .string (txt a.text)]) := hHd (Blk.new _ _ _)
 have HB1 : Hid (Below w.heap.size w (w.alloc (.cells #[.int .i64 a.kind, .int .u64 (a.num : Int), .string (txt a.text)] 39))) := hHd bAl
 have HZ1 : Hid (w.heap.size + 1 ≤ (w.alloc (.cells #[.int .i64 a.kind, .int .u64 (a.num : Int), .string (txt a.text)] 39)).heap.size) := hHd (by simp)
 have HLS : ∀ W, Hid (Calls Tryz.prog 103 #[.int .u64 (a.num : Int)] W (DatP (leastB a.num) W)) := fun W => hHd ((least_any a.num W hn).mono fun r w' h => datP_big h)
 have HLL : Hid ((leastB a.num).length ≤ 8) := hHd (least_len18 _ hn)
 clear hkb h0 h1 ht hn
 go_enter Tryz.func77, Tryz.ntmps77
 go_upto_region 1 with (fail)
 revert HX1 HB1 HZ1
 generalize (w.alloc (.cells #[.int .i64 a.kind, .int .u64 (a.num : Int), .string (txt a.text)] 39)) = w1
 intro HX1 HB1 HZ1
 have q2 := (HX1.out.cell 2).trans rfl
 go_upto_region 2 with (fail)
 clear q2
 have HWD : Hid (Below w1.heap.size w1 w1.drew) := hHd (Below.refl _ _).drew
 refine wp_region_noPanic ?_
 refine wp_region_held_drew (S := fun _ => True) (by kernel_rfl) trivial (fun hS => ?_)
 refine held_more (S' := fun w' => Below (w.heap.size + 1) w1 w') (fun _ _ => trivial) _ _ _ _ ?_
 replace hS := HWD.out.mono HZ1.out
 refine tkH 0 hS ?_
 refine tkH 1 hS ?_ (hy := fun w hSw => by have q0 := ((HX1.out.below hSw (by omega)).cell 0).trans rfl; (go_simp <;> with_reducible rfl))
 refine tkH 2 hS ?_ (hy := fun w hSw => by have hkv := hkw; (go_simp <;> with_reducible rfl))
 refine tkH 4 hS ?_
 refine tkH 5 hS ?_ (hy := fun w hSw => by have q1 := ((HX1.out.below hSw (by omega)).cell 1).trans rfl; (go_simp <;> with_reducible rfl))
 refine rdy [3, 6] (rdC (fun K hK => ?str_0) (rdC (fun K hK => ?str_1) .nil))
 case' str_0 =>
  have HOW : Hid (Own ((w1.drew).alloc (.cells #[byteV kb, .int .u8 0] 5)) w1.heap.size (.slice (some ⟨(w1.heap.size), 0, none⟩) 2 2) [kb, 0]) := hHd (own_lit18 _ _ kb 0 HWD.out.size)
  have hb3 : Below (w1.drew).heap.size (w1.drew) ((w1.drew).alloc (.cells #[byteV kb, .int .u8 0] 5)) := bAl
  have HWD := hHd (HWD.out.trans (hb3.mono HWD.out.size))
  clear hb3
  go_simp
  refine hK.out _ _ ?sr_0 (fun hS => ?_)
  case sr_0 => (exact HWD.out.mono HZ1.out)
  clear hK K
  (try simp only [Act.put, layS])
  refine rdy1 6 fun K hK => ?_
  go_simp
  refine (HLS _).out.mono ?_
  rintro r w6 ⟨v6, rfl, ⟨d6, hr6, -⟩, hb6⟩
  have HD6 : Hid (∃ d6, Rd w6 d6 v6 (leastB a.num)) := hHd ⟨d6, hr6⟩
  have HOW := hHd (HOW.out.below hb6)
  have HWD := hHd (HWD.out.trans (hb6.mono HWD.out.size))
  clear hr6 hb6 d6
  go_wp2_with fail
  refine hK.out _ _ ?sr_2 (fun hS => ?_)
  case sr_2 => (exact HWD.out.mono HZ1.out)
  clear hK K
  (try simp only [Act.put, layS])
  refine rdy1 7 fun K hK => ?_
  obtain ⟨d6, hr6⟩ := HD6.out
  refine wp_append_rd (.tmp 9) (.tmp 12) (by rfl) (by rfl) w1.heap.size _ [kb, 0] (by rfl) HOW.out d6 v6 (leastB a.num) (by rfl) hr6 (by have := HLL.out; simp only [List.length_cons, List.length_nil]; omega) HWD.out.size ?_
  intro v9 w9 hap
  have hb9 : Below w1.heap.size w1 w9 := HWD.out.trans (hap.below HOW.out HWD.out.size)
  have H9 := hHd (own_datP18 (w := w) hap.1 (by have := HLL.out; simp only [List.length_cons, List.length_append, List.length_nil]; omega) HB1.out.size (HB1.out.trans (hb9.mono HB1.out.size)))
  have HB9 := hHd hb9
  clear hap hb9 hr6
  refine hK.out _ _ ?sr_3 (fun hS => ?_)
  case sr_3 => (exact HB9.out.mono HZ1.out)
  clear hK K
  (try simp only [Act.put, layS])
  refine tkH 8 hS ?_
  refine wpAnyH_done (by kernel_rfl) ?_ _
  refine NoPanic.normal ?_
 case' str_1 =>
  go_simp
  refine (HLS _).out.mono ?_
  rintro r w6 ⟨v6, rfl, ⟨d6, hr6, -⟩, hb6⟩
  have HD6 : Hid (∃ d6, Rd w6 d6 v6 (leastB a.num)) := hHd ⟨d6, hr6⟩
  have HWD := hHd (HWD.out.trans (hb6.mono HWD.out.size))
  clear hr6 hb6 d6
  go_wp2_with fail
  refine hK.out _ _ ?sr_1 (fun hS => ?_)
  case sr_1 => (exact HWD.out.mono HZ1.out)
  clear hK K
  (try simp only [Act.put, layS])
  refine rdy1 3 fun K hK => ?_
  have HOW : Hid (Own ((w6).alloc (.cells #[byteV kb, .int .u8 0] 5)) w1.heap.size (.slice (some ⟨(w6.heap.size), 0, none⟩) 2 2) [kb, 0]) := hHd (own_lit18 _ _ kb 0 HWD.out.size)
  have hb3 : Below (w6).heap.size (w6) ((w6).alloc (.cells #[byteV kb, .int .u8 0] 5)) := bAl
  have HWD := hHd (HWD.out.trans (hb3.mono HWD.out.size))
  have HD6 : Hid (∃ d6, Rd ((w6).alloc (.cells #[byteV kb, .int .u8 0] 5)) d6 v6 (leastB a.num)) := hHd (by obtain ⟨d6, h6⟩ := HD6.out; exact ⟨d6, h6.below' hb3⟩)
  clear hb3
  go_simp
  refine hK.out _ _ ?sr_4 (fun hS => ?_)
  case sr_4 => (exact HWD.out.mono HZ1.out)
  clear hK K
  (try simp only [Act.put, layS])
  refine rdy1 7 fun K hK => ?_
  obtain ⟨d6, hr6⟩ := HD6.out
  refine wp_append_rd (.tmp 9) (.tmp 12) (by rfl) (by rfl) w1.heap.size _ [kb, 0] (by rfl) HOW.out d6 v6 (leastB a.num) (by rfl) hr6 (by have := HLL.out; simp only [List.length_cons, List.length_nil]; omega) HWD.out.size ?_
  intro v9 w9 hap
  have hb9 : Below w1.heap.size w1 w9 := HWD.out.trans (hap.below HOW.out HWD.out.size)
  have H9 := hHd (own_datP18 (w := w) hap.1 (by have := HLL.out; simp only [List.length_cons, List.length_append, List.length_nil]; omega) HB1.out.size (HB1.out.trans (hb9.mono HB1.out.size)))
  have HB9 := hHd hb9
  clear hap hb9 hr6
  refine hK.out _ _ ?sr_5 (fun hS => ?_)
  case sr_5 => (exact HB9.out.mono HZ1.out)
  clear hK K
  (try simp only [Act.put, layS])
  refine tkH 8 hS ?_
  refine wpAnyH_done (by kernel_rfl) ?_ _
  refine NoPanic.normal ?_
 all_goals (clear hS; go_wp2; go_ret; exact H9.out)
theorem byt_any18 (a : NdD) (w : World) (h0 : 0 ≤ a.kind) (h1 : a.kind ≤ 255) (hn : a.num < 18446744073709551616) (hl : a.text.length ≤ 1048576) : Calls Tryz.prog 77 #[.agg #[.int .i64 a.kind, .int .u64 (a.num : Int), .string (txt a.text)]] w (DatP (valT18 leastB a) w) := by
 unfold valT18
 by_cases ht : a.text = []
 ·rw [if_pos ht]; exact byt_num18 a w h0 h1 ht hn
 ·rw [if_neg ht]; exact byt_text18 a w h0 h1 ht hl
theorem text_item18 (W : World) (s : List UInt8) (t cc : Nat) (hs : s.length ≤ 1048576) (hc : s.length ≤ cc) : Rd ((W.drew.alloc (.cells (bytesRow (txt s) cc) 5 ((bytesRow (txt s) cc).size, (bytesRow (txt s) cc).size + 1))).alloc (.cells #[.int .u64 (t : Int), (.slice (some ⟨W.heap.size, 0, none⟩) s.length cc), .slice none 0 0] 58)) W.heap.size (.slice (some ⟨W.heap.size, 0, none⟩) s.length cc) s ∧ Blk ((W.drew.alloc (.cells (bytesRow (txt s) cc) 5 ((bytesRow (txt s) cc).size, (bytesRow (txt s) cc).size + 1))).alloc (.cells #[.int .u64 (t : Int), (.slice (some ⟨W.heap.size, 0, none⟩) s.length cc), .slice none 0 0] 58)) (W.heap.size + 1) 58 #[.int .u64 (t : Int), (.slice (some ⟨W.heap.size, 0, none⟩) s.length cc), .slice none 0 0] ∧ Below W.heap.size W ((W.drew.alloc (.cells (bytesRow (txt s) cc) 5 ((bytesRow (txt s) cc).size, (bytesRow (txt s) cc).size + 1))).alloc (.cells #[.int .u64 (t : Int), (.slice (some ⟨W.heap.size, 0, none⟩) s.length cc), .slice none 0 0] 58)) := by
 have h := bytes_rd W s 5 ((bytesRow (txt s) cc).size, (bytesRow (txt s) cc).size + 1) cc hs hc
 have hb := ((Below.refl W.heap.size W).drew.alloc (o := (.cells (bytesRow (txt s) cc) 5 ((bytesRow (txt s) cc).size, (bytesRow (txt s) cc).size + 1))) (Nat.le_refl _))
 exact ⟨h.heap' (fun hlt => Below.heap_alloc _ _ _ hlt), Blk.newA (w := W.drew.alloc (.cells (bytesRow (txt s) cc) 5 ((bytesRow (txt s) cc).size, (bytesRow (txt s) cc).size + 1))) (by rw [World.size_alloc]; rfl) _ _, hb.alloc hb.size _⟩
theorem dataI_its18 {w : World} {base db : Nat} {u dv : Value} {d : List UInt8} (h : Rd w db dv d) (hb : base ≤ db) (hn : u.ownBlock ≠ some db) : DataI w (ItsI base w u) dv d := ⟨db, h, fun h0 => ⟨hb, h.lt h0, fun e => hn e.symm⟩⟩
theorem its_mine18 {W0 W : World} {base : Nat} {e : TypeId} {v dv : Value} {F : Fo} {d : List UInt8} (ho : OwnF DataI e W0 base v F) (hb : base ≤ W0.heap.size) (h : DataI W (MineI W0.heap.size W) dv d) : DataI W (ItsI base W v) dv d := by
 obtain ⟨db, h1, h2⟩ := h
 exact ⟨db, h1, fun h0 => ⟨Nat.le_trans hb (h2 h0).1, (h2 h0).2, fun e => by have := (ho.lt _ e.symm).2; have := (h2 h0).1; omega⟩⟩
theorem its_fv18 {W0 W : World} {base : Nat} {e : TypeId} {v kv : Value} {F K : Fo} (ho : OwnF DataI e W0 base v F) (hb : base ≤ W0.heap.size) (h : FV DataI W (MineI W0.heap.size W) kv K) : FV DataI W (ItsI base W v) kv K :=
 h.kept stays_I (fun _ _ => rfl) (fun g hg => ⟨Nat.le_trans hb hg.1, hg.2, fun e => by have := (ho.lt _ e.symm).2; have := hg.1; omega⟩)
theorem OwnF.litI18 {w : World} {base g t : Nat} {dv : Value} {d : List UInt8} (hb : Blk w g 58 #[.int .u64 (t : Int), dv, .slice none 0 0]) (hg : base ≤ g) (ht : t < 18446744073709551616) (hd : DataI w (ItsI base w (.slice (some ⟨g, 0, none⟩) 1 1)) dv d) : OwnF DataI 58 w base (.slice (some ⟨g, 0, none⟩) 1 1) (.cons t d .nil .nil) :=
 ⟨[.int .u64 (t : Int), dv, .slice none 0 0], ⟨rfl, .inr ⟨g, 1, _, rfl, hg, hb, Nat.le_refl _, by decide, rfl, rfl⟩⟩, ⟨rfl, ht, hd, FV.nil _ _, trivial⟩⟩
end
section
open Go.RowKit Go.Shelf
def renNm : Go.Shelf.Ren := ⟨fun | 99 => 123 | 102 => 131 | 103 => 129 | 119 => 145 | 137 => 144 | 151 => 140 | 152 => 143 | 161 => 130 | 197 => 139 | 206 => 128 | 207 => 141 | 209 => 137 | 210 => 132 | 217 => 148 | 224 => 146 | 225 => 147 | 227 => 134 | 228 => 138 | 231 => 133 | 233 => 135 | 235 => 136 | 260 => 142 | 266 => 149 | n => n, fun | 0 => 0 | 3 => 3 | 4 => 4 | 5 => 5 | 9 => 9 | 21 => 21 | 24 => 180 | 46 => 155 | 105 => 190 | 116 => 185 | 117 => 186 | 119 => 194 | 124 => 189 | 138 => 196 | 139 => 197 | n => n, fun | 3 => 0 | 4 => 1 | n => n⟩
theorem sl99 : Go.Proofs.Lays.n99 Tryz.prog renNm := {
 mixed := by kernel_rfl
 f99 := Tryz.func123.trans (congrArg some (by kernel_rfl))
 f206 := Tryz.func128.trans (congrArg some (by kernel_rfl))
 t3 := Tryz.underlying3
 a3 := Tryz.isAgg3
 z3 := Tryz.sizeOf3
 v3 := Tryz.zeroValue3
 t4 := Tryz.underlying4
 a4 := Tryz.isAgg4
 z4 := Tryz.sizeOf4
 v4 := Tryz.zeroValue4
 t9 := Tryz.underlying9
 a9 := Tryz.isAgg9
 z9 := Tryz.sizeOf9
 v9 := Tryz.zeroValue9 }
theorem sl102 : Go.Proofs.Lays.n102 Tryz.prog renNm := {
 mixed := by kernel_rfl
 f102 := Tryz.func131.trans (congrArg some (by kernel_rfl))
 f207 := Tryz.func141.trans (congrArg some (by kernel_rfl))
 f209 := Tryz.func137.trans (congrArg some (by kernel_rfl))
 t3 := Tryz.underlying3
 a3 := Tryz.isAgg3
 z3 := Tryz.sizeOf3
 v3 := Tryz.zeroValue3
 t4 := Tryz.underlying4
 a4 := Tryz.isAgg4
 z4 := Tryz.sizeOf4
 v4 := Tryz.zeroValue4
 t9 := Tryz.underlying9
 a9 := Tryz.isAgg9
 z9 := Tryz.sizeOf9
 v9 := Tryz.zeroValue9 }
theorem sl103 : Go.Proofs.Lays.n103 Tryz.prog renNm := {
 mixed := by kernel_rfl
 f103 := Tryz.func129.trans (congrArg some (by kernel_rfl))
 f206 := Tryz.func128.trans (congrArg some (by kernel_rfl))
 f210 := Tryz.func132.trans (congrArg some (by kernel_rfl))
 t3 := Tryz.underlying3
 a3 := Tryz.isAgg3
 z3 := Tryz.sizeOf3
 v3 := Tryz.zeroValue3
 t4 := Tryz.underlying4
 a4 := Tryz.isAgg4
 z4 := Tryz.sizeOf4
 v4 := Tryz.zeroValue4
 t9 := Tryz.underlying9
 a9 := Tryz.isAgg9
 z9 := Tryz.sizeOf9
 v9 := Tryz.zeroValue9
 t24 := Tryz.underlying180
 a24 := Tryz.isAgg180
 z24 := Tryz.sizeOf180
 v24 := Tryz.zeroValue180 }
theorem sl161 : Go.Proofs.Lays.n161 Tryz.prog renNm := {
 mixed := by kernel_rfl
 f119 := Tryz.func145.trans (congrArg some (by kernel_rfl))
 f137 := Tryz.func144.trans (congrArg some (by kernel_rfl))
 f151 := Tryz.func140.trans (congrArg some (by kernel_rfl))
 f152 := Tryz.func143.trans (congrArg some (by kernel_rfl))
 f161 := Tryz.func130.trans (congrArg some (by kernel_rfl))
 f197 := Tryz.func139.trans (congrArg some (by kernel_rfl))
 f217 := Tryz.func148.trans (congrArg some (by kernel_rfl))
 f224 := Tryz.func146.trans (congrArg some (by kernel_rfl))
 f225 := Tryz.func147.trans (congrArg some (by kernel_rfl))
 f227 := Tryz.func134.trans (congrArg some (by kernel_rfl))
 f228 := Tryz.func138.trans (congrArg some (by kernel_rfl))
 f231 := Tryz.func133.trans (congrArg some (by kernel_rfl))
 f233 := Tryz.func135.trans (congrArg some (by kernel_rfl))
 f235 := Tryz.func136.trans (congrArg some (by kernel_rfl))
 f260 := Tryz.func142.trans (congrArg some (by kernel_rfl))
 f266 := Tryz.func149.trans (congrArg some (by kernel_rfl))
 t0 := Tryz.underlying0
 a0 := Tryz.isAgg0
 z0 := Tryz.sizeOf0
 v0 := Tryz.zeroValue0
 t3 := Tryz.underlying3
 a3 := Tryz.isAgg3
 z3 := Tryz.sizeOf3
 v3 := Tryz.zeroValue3
 t4 := Tryz.underlying4
 a4 := Tryz.isAgg4
 z4 := Tryz.sizeOf4
 v4 := Tryz.zeroValue4
 t5 := Tryz.underlying5
 a5 := Tryz.isAgg5
 z5 := Tryz.sizeOf5
 v5 := Tryz.zeroValue5
 t9 := Tryz.underlying9
 a9 := Tryz.isAgg9
 z9 := Tryz.sizeOf9
 v9 := Tryz.zeroValue9
 t21 := Tryz.underlying21
 a21 := Tryz.isAgg21
 z21 := Tryz.sizeOf21
 v21 := Tryz.zeroValue21
 t46 := Tryz.underlying155
 a46 := Tryz.isAgg155
 z46 := Tryz.sizeOf155
 v46 := Tryz.zeroValue155
 t105 := Tryz.underlying190
 a105 := Tryz.isAgg190
 z105 := Tryz.sizeOf190
 v105 := Tryz.zeroValue190
 t116 := Tryz.underlying185
 a116 := Tryz.isAgg185
 z116 := Tryz.sizeOf185
 t117 := Tryz.underlying186
 a117 := Tryz.isAgg186
 z117 := Tryz.sizeOf186
 v117 := Tryz.zeroValue186
 t119 := Tryz.underlying194
 a119 := Tryz.isAgg194
 z119 := Tryz.sizeOf194
 t124 := Tryz.underlying189
 a124 := Tryz.isAgg189
 z124 := Tryz.sizeOf189
 v124 := Tryz.zeroValue189
 t138 := Tryz.underlying196
 a138 := Tryz.isAgg196
 z138 := Tryz.sizeOf196
 v138 := Tryz.zeroValue196
 t139 := Tryz.underlying197
 a139 := Tryz.isAgg197
 z139 := Tryz.sizeOf197
 v139 := Tryz.zeroValue197
 g3 := by kernel_rfl
 g4 := by kernel_rfl }
def inNm : List UInt8 := [97, 98, 99, 100, 101, 102, 103, 104, 105, 106, 107, 108, 109, 110, 111, 112, 113, 114, 115, 116, 117, 118, 119, 120, 121, 122, 48, 49, 50, 51, 52, 53, 54, 55, 56, 57, 45]
theorem info_set : (Tryz.prog.info? 185).map (fun i => (i.zero, i.size)) = some (some (.agg (Array.replicate 256 (.bool false))), 256) := by kernel_rfl
end
section
open Go.RowKit Go.Shelf
theorem gr_trans {a b c : World} {row : Option Nat} (h : a.grownBy b row) (k : b.grownBy c row) : a.grownBy c row :=
 ⟨k.os.trans h.os, k.tape.trans h.tape, k.output.trans h.output, Nat.le_trans h.size k.size, fun i hi hr => (k.block i (Nat.lt_of_lt_of_le hi h.size) hr).trans (h.block i hi hr)⟩
theorem gr_of {a b : World} {B : Nat} (h : Below B a b) (hB : a.heap.size ≤ B) (row : Option Nat) : a.grownBy b row :=
 ⟨h.os, h.tape, h.output, h.size, fun i hi _ => h.block i (Nat.lt_of_lt_of_le hi hB)⟩
theorem gr_below {a b c : World} {B : Nat} {row : Option Nat} (h : a.grownBy b row) (k : Below B b c) (hB : a.heap.size ≤ B) : a.grownBy c row :=
 ⟨k.os.trans h.os, k.tape.trans h.tape, k.output.trans h.output, Nat.le_trans h.size k.size, fun i hi hr => (k.block i (Nat.lt_of_lt_of_le hi hB)).trans (h.block i hi hr)⟩
theorem gr_set {w : World} (p : Addr) (u : Value) : w.grownBy (w.setCell p u) (some p.block) :=
 ⟨rfl, rfl, rfl, by simp [World.setCell], fun i _ hr => Below.heap_setCell w p u i (fun e => hr (by rw [e]))⟩
theorem bld_kept {T e : TypeId} {B b g : Nat} {bs : List Value} {w w' : World} (h : Lib.IsBuilderF T e B b bs w) (hg : w.grownBy w' (some g)) (hb : g < B) : Lib.IsBuilderF T e B b bs w' := by
 have k : ∀ p, Lib.BuilderAtF T e B b p bs w → Lib.BuilderAtF T e B b p bs w' := fun p ⟨h1, v, h2, h3, h4⟩ => by
  refine ⟨h1, v, (hg.block b (Array.getElem?_eq_some_iff.1 h2).1 (by simp; omega)).trans h2, h3.kept hg ?_, h4⟩
  cases hv : v.ownBlock with
  | none => exact .inl rfl
  | some k =>
   have := (h3.lt k hv).1
   exact .inr (by simp; omega)
 exact h.elim (fun x => .inl (k _ x)) (fun x => .inr (k _ x))
theorem bld_below {T e : TypeId} {B b : Nat} {bs : List Value} {w w' : World} (h : Lib.IsBuilderF T e B b bs w) (hg : Below w.heap.size w w') : Lib.IsBuilderF T e B b bs w' := by
 have k : ∀ p, Lib.BuilderAtF T e B b p bs w → Lib.BuilderAtF T e B b p bs w' := fun p ⟨h1, v, h2, h3, h4⟩ => by
  have hgr : w.grownBy w' none := gr_of hg (Nat.le_refl _) none
  refine ⟨h1, v, (hg.block b (Array.getElem?_eq_some_iff.1 h2).1).trans h2, h3.kept hgr ?_, h4⟩
  cases hv : v.ownBlock with
  | none => exact .inl rfl
  | some k => exact .inr (by simp)
 exact h.elim (fun x => .inl (k _ x)) (fun x => .inr (k _ x))
def bren : Go.Shelf.Ren := ⟨fun | 169 => 75 | n => n, fun | 0 => 0 | 3 => 3 | 4 => 4 | 5 => 5 | 9 => 9 | 37 => 25 | 70 => 115 | 72 => 117 | 127 => 152 | n => n, fun | n => n⟩
theorem blays169 : Go.Proofs.Lays.n169 Tryz.prog bren := {
 mixed := by kernel_rfl
 f169 := Tryz.func75.trans (congrArg some (by kernel_rfl))
 t0 := Tryz.underlying0
 a0 := Tryz.isAgg0
 z0 := Tryz.sizeOf0
 v0 := Tryz.zeroValue0
 t3 := Tryz.underlying3
 a3 := Tryz.isAgg3
 z3 := Tryz.sizeOf3
 v3 := Tryz.zeroValue3
 t9 := Tryz.underlying9
 a9 := Tryz.isAgg9
 z9 := Tryz.sizeOf9
 v9 := Tryz.zeroValue9
 t37 := Tryz.underlying25
 a37 := Tryz.isAgg25
 z37 := Tryz.sizeOf25
 v37 := Tryz.zeroValue25
 t70 := Tryz.underlying115
 a70 := Tryz.isAgg115
 z70 := Tryz.sizeOf115
 v70 := Tryz.zeroValue115
 t72 := Tryz.underlying117
 a72 := Tryz.isAgg117
 z72 := Tryz.sizeOf117
 v72 := Tryz.zeroValue117
 t127 := Tryz.underlying152
 a127 := Tryz.isAgg152
 z127 := Tryz.sizeOf152
 v127 := Tryz.zeroValue152 }
theorem bextra : Builder.Extra Tryz.prog bren := {
 sizeBuilder := by kernel_rfl
 liesBuilder := by kernel_rfl
 t5 := Tryz.underlying5
 a5 := Tryz.isAgg5
 z5 := Tryz.sizeOf5
 v5 := Tryz.zeroValue5
 infoByte := by kernel_rfl
 cellsByte := by kernel_rfl
 sizeByte := by kernel_rfl
 neB5 := by decide }
def Bld (w : World) (B b : Nat) (l : List UInt8) : Prop := Lib.IsBuilderF 117 5 B b (Lib.byteCells l) w
theorem Bld.fresh (w : World) : Bld (w.alloc (.cells #[.pointer none, .slice none 0 0] 117)) w.heap.size w.heap.size [] := Lib.IsBuilderF.of (Lib.fresh_isBuilder _ _ w)
theorem Bld.kept {w w' : World} {B b g : Nat} {l : List UInt8} (h : Bld w B b l) (hg : w.grownBy w' (some g)) (hb : g < B) : Bld w' B b l := bld_kept h hg hb
theorem Bld.below {w w' : World} {B b : Nat} {l : List UInt8} (h : Bld w B b l) (hg : Below w.heap.size w w') : Bld w' B b l := bld_below h hg
def BldP (w : World) (B b : Nat) (l : List UInt8) (w' : World) : Prop := Bld w' B b l ∧ Below B w w' ∧ Lib.OthersKept 5 (some b) w w'
theorem bstring_any (B b : Nat) (l : List UInt8) (w : World) (h : Bld w B b l) (hBw : B ≤ w.heap.size) :
  Calls Tryz.prog 75 #[.pointer (some ⟨b, 0, none⟩)] w fun e w' => e = .returned (.string (txt l)) ∧ BldP w B b l w' :=
 (Any.Builder_String_any_k blays169 bextra B b l w h hBw).mono fun _ _ ⟨h1, h2, h3, h4⟩ => ⟨h1, h2, h3, h4⟩
theorem info_b : (Tryz.prog.info? 5).map (fun i => (i.zero, i.size, i.bytes)) = some (some (.int .u8 0), 1, 1) := by kernel_rfl
theorem info_bld : (Tryz.prog.info? 117).map (·.size) = some 2 := by kernel_rfl
theorem lies_bld : liesAt Tryz.prog Tryz.prog.depth 117 (2 / Tryz.prog.cellsOf 117) 0 117 1 = true := by kernel_rfl
theorem shape_bld {w : World} {b : Nat} {cs : Array Value} (h : Blk w b 117 cs) (hc : cs.size = 2) : w.shape? b = some (117, 2) := by
 unfold World.shape?
 rw [show w.heap[b]? = some (.cells cs 117 (0, 0)) from h]
 simp [hc]
def CopyP (w : World) (B b : Nat) (bs : List Value) (r : Ending) (w' : World) : Prop :=
 r = .returned (.tuple #[]) ∧ Lib.BuilderAtF 117 5 B b (.pointer (some ⟨b, 0, none⟩)) bs w' ∧ Below B w w' ∧ Lib.OthersKept 5 (some b) w w'
theorem copy_fresh (b : Nat) (v : Value) (w : World) (h : Blk w b 117 #[.pointer none, v]) :
  Calls Tryz.prog 102 #[.pointer (some ⟨b, 0, none⟩)] w fun e w' => e = .returned (.tuple #[]) ∧ w' = w.setCell ⟨b, 0, none⟩ (.pointer (some ⟨b, 0, none⟩)) := by
 obtain ⟨j, hj, hjs⟩ := Option.map_eq_some_iff.1 info_bld
 have hsh := shape_bld h rfl
 have h0 : w.cell? ⟨b, 0, none⟩ = some (.pointer none) := by rw [h.cell]; rfl
 have hfz : w.frozen? ⟨b, 0, none⟩ = false := h.frozen 0
 clear h
 go_enter Tryz.func102, Tryz.ntmps102
 go_wp2
 rw [Lib.run_to_unsafe w ⟨b, 0, none⟩ Tryz.underlying115 Tryz.underlying164 hj (by rw [hjs]; decide) hsh (Nat.zero_lt_succ 1)]
 simp only [Result.andThen]
 rw [Oper.upon_value]
 go_wp2
 rw [run_callFunc_extern Tryz.func114 (by kernel_rfl) (by kernel_rfl) (by kernel_rfl) (e := Extern.AbiNoEscape.same) (by kernel_rfl)]
 rw [Lib.run_noEscape]
 simp only [Result.andThen]
 rw [Oper.upon_value]
 go_wp2
 rw [Lib.run_from_unsafe w ⟨b, 0, none⟩ Tryz.underlying164 Tryz.underlying115 hj hsh lies_bld]
 simp only [Result.andThen]
 rw [Oper.upon_value]
 go_wp2
 go_end0
 exact ⟨rfl, rfl⟩
theorem copy_used (b : Nat) (v : Value) (w : World) (h : Blk w b 117 #[.pointer (some ⟨b, 0, none⟩), v]) :
  Calls Tryz.prog 102 #[.pointer (some ⟨b, 0, none⟩)] w fun e w' => e = .returned (.tuple #[]) ∧ w = w' := by
 obtain ⟨j, hj, hjs⟩ := Option.map_eq_some_iff.1 info_bld
 have h0 : w.cell? ⟨b, 0, none⟩ = some (.pointer (some ⟨b, 0, none⟩)) := by rw [h.cell]; rfl
 have hne : ∀ w : World, (binOp .neq 115 (.pointer (some ⟨b, 0, none⟩)) (.pointer (some ⟨b, 0, none⟩))).run Tryz.prog w = .ok (.bool false) w := fun w => Lib.run_neq_ptr_same w ⟨b, 0, none⟩ Tryz.underlying115 hj
 clear h
 go_enter Tryz.func102, Tryz.ntmps102
 go_wp2
 go_end0
 exact ⟨rfl, rfl⟩
theorem copy_any (B b : Nat) (bs : List Value) (w : World) (h : Lib.IsBuilderF 117 5 B b bs w) :
  Calls Tryz.prog 102 #[.pointer (some ⟨b, 0, none⟩)] w (CopyP w B b bs) := by
 rcases h with h | h
 ·obtain ⟨_, v, h2, _⟩ := id h
  refine (copy_fresh b v w h2).mono ?_
  rintro e w' ⟨rfl, rfl⟩
  exact ⟨rfl, h.used _, (Below.refl B w).setCell (p := ⟨b, 0, none⟩) h.1 _, (Lib.OthersKept.refl _ _ w).setCell ⟨b, 0, none⟩ rfl _⟩
 ·obtain ⟨_, v, h2, _⟩ := id h
  refine (copy_used b v w h2).mono ?_
  rintro e w' ⟨rfl, rfl⟩
  exact ⟨rfl, h, Below.refl B _, Lib.OthersKept.refl _ _ _⟩
theorem bld_cells {B b : Nat} {bs : List Value} {v : Value} {w1 w2 w0 : World} (hbk : w1.heap[b]? = some (.cells #[.pointer (some ⟨b, 0, none⟩), v] 117 (0, 0))) (hw : w0 = w1 ∨ ∃ o, w0 = w1.alloc o) (hne : v.ownBlock ≠ some b) (hgrow : w0.grownBy w2 v.ownBlock)
  (hown : w1.ownsRowF B 5 1 v bs.length bs) : w2.heap[b]? = some (.cells #[.pointer (some ⟨b, 0, none⟩), v] 117 (0, 0)) ∧ w1.heap.size ≤ w2.heap.size ∧ w0.ownsRowF B 5 1 v bs.length bs := by
 have hlt : b < w1.heap.size := (Array.getElem?_eq_some_iff.1 hbk).1
 rcases hw with rfl | ⟨o, rfl⟩
 ·exact ⟨(hgrow.block b hlt (fun e => hne e.symm)).trans hbk, hgrow.size, hown⟩
 ·have h1 : w1.heap.size ≤ (w1.alloc o).heap.size := by simp
  exact ⟨(hgrow.block b (Nat.lt_of_lt_of_le hlt h1) (fun e => hne e.symm)).trans ((Lib.alloc_old w1 o b hlt).trans hbk), Nat.le_trans h1 hgrow.size, hown.alloc o⟩
theorem bld_done {B b : Nat} {bs cs : List Value} {v v' : Value} {w w1 w2 w0 : World} (hB : B ≤ b) (hBw : B ≤ w.heap.size) (hb1 : Below B w w1) (hk1 : Lib.OthersKept 5 (some b) w w1)
  (hbk : w1.heap[b]? = some (.cells #[.pointer (some ⟨b, 0, none⟩), v] 117 (0, 0))) (hw : w0 = w1 ∨ ∃ o, w0 = w1.alloc o) (hne : v.ownBlock ≠ some b) (hgrow : w0.grownBy w2 v.ownBlock)
  (hown : w1.ownsRowF B 5 1 v bs.length bs) (hown' : w2.ownsRowF B 5 1 v' (bs ++ cs).length (bs ++ cs)) :
  Lib.IsBuilderF 117 5 B b (bs ++ cs) (w2.setCell ⟨b, 1, none⟩ v') ∧ Below B w (w2.setCell ⟨b, 1, none⟩ v') ∧ Lib.OthersKept 5 (some b) w (w2.setCell ⟨b, 1, none⟩ v') := by
 obtain ⟨h2, _, hown0⟩ := bld_cells hbk hw hne hgrow hown
 have hs := hb1.size
 have hb0 : Below B w w0 := by
  rcases hw with rfl | ⟨o, rfl⟩
  ·exact hb1
  ·exact hb1.alloc (by omega) o
 have hk0 : Lib.OthersKept 5 (some b) w w0 := by
  rcases hw with rfl | ⟨o, rfl⟩
  ·exact hk1
  ·exact hk1.alloc o
 have hs0 := hb0.size
 refine ⟨.inr (Lib.BuilderAtF.put hB h2 hown' (by decide)), (hb0.grown hgrow (by omega) (fun k hk => (hown.lt k hk).1)).setCell (p := ⟨b, 1, none⟩) hB _, (hk0.grown hgrow (Lib.ownsRowF_kind hown0)).setCell ⟨b, 1, none⟩ rfl _⟩
theorem bstr_any (B b : Nat) (l t : List UInt8) (w : World) (h : Bld w B b l) (hlen : l.length + t.length ≤ 140737488355328) (hBw : B ≤ w.heap.size) :
  Calls Tryz.prog 74 #[.pointer (some ⟨b, 0, none⟩), .string (txt t)] w fun e w' => e = .returned (.tuple #[.int .i64 (t.length : Int), .nilIface]) ∧ BldP w B b (l ++ t) w' := by
 obtain ⟨i0, hi, hz0, hz1, hz2⟩ := info_parts info_b
 have hl : (Lib.byteCells l).length = l.length := Lib.byteCells_length l
 have hmono : (Lib.byteCells (l ++ t)) = Lib.byteCells l ++ Lib.strCells (txt t) := by rw [Lib.byteCells_append]; rfl
 have hsz := txt_size t
 unfold BldP Bld at *
 rw [hmono]
 generalize Lib.byteCells l = bs at h hl ⊢
 rw [← hl, ← hsz] at hlen
 have HS := hHd hsz
 clear hmono hl hsz
 go_enter Tryz.func74, Tryz.ntmps74
 go_wp2_with fail
 refine (copy_any B b bs _ h).mono ?_
 rintro e w1 ⟨rfl, h1, hb1, hk1⟩
 obtain ⟨hB, v, hbk, hown, hne⟩ := h1
 have c0 : w1.cell? ⟨b, 0, none⟩ = some (.pointer (some ⟨b, 0, none⟩)) := by rw [Lib.cell_of_heap hbk]; rfl
 have c1 : w1.cell? ⟨b, 1, none⟩ = some v := by rw [Lib.cell_of_heap hbk]; rfl
 have hs1 := hb1.size
 go_wp2_with (at_builtin; refine Lib.wpList_append_own_stringF _ rfl _ _ 25 9 rfl B 5 i0 Tryz.underlying25 Tryz.underlying9 hi hz0 hz1 hz2 _ _ _ rfl hown (txt t) rfl ?c3 ?c4 ?c5 ?_)
 case c3 => unfold maxLen; omega
 case c4 => omega
 case c5 => omega
 intro v' w2 hown' hgrow _
 obtain ⟨hb2, -, -⟩ := bld_cells hbk (.inl rfl) hne hgrow hown
 have d0 : w2.cell? ⟨b, 0, none⟩ = some (.pointer (some ⟨b, 0, none⟩)) := by rw [Lib.cell_of_heap hb2]; rfl
 have d1 : w2.cell? ⟨b, 1, none⟩ = some v := by rw [Lib.cell_of_heap hb2]; rfl
 have f1 : w2.frozen? ⟨b, 1, none⟩ = false := Lib.frozen_of_heap hb2 1
 obtain ⟨ao, n', cap, rfl⟩ : ∃ ao n' cap, v' = .slice ao n' cap := by
  rcases hown'.2 with ⟨hv, _⟩ | ⟨g, cap, cur, fz, hv, _⟩
  ·exact ⟨_, _, _, hv⟩
  ·exact ⟨_, _, _, hv⟩
 go_wp2
 go_ret2
 exact ⟨by rw [HS.out]; rfl, bld_done hB hBw hb1 hk1 hbk (.inl rfl) hne hgrow hown (by simpa [Lib.strCells_length] using hown')⟩
end
end Go.Proofs.YtleidkpdpabkpaaGreatDoor

/- SpvFnI -/
import Derived.Test.YtikmilcdibldhaaDoorAM0
import Derived.Test.YtikmilcdibldhaaDoorAM25
set_option linter.unusedSimpArgs false
set_option linter.unusedVariables false
namespace Go.Proofs.YtikmilcdibldhaaDoor
open Go.RowKit
theorem cap_one {cap : Array Value} (h : cap.size = 1) : ∃ a, cap = #[a] := by
 obtain ⟨l⟩ := cap
 match l, h with
 | [a], _ => exact ⟨a, rfl⟩
theorem cap_two {cap : Array Value} (h : cap.size = 2) : ∃ a b, cap = #[a, b] := by
 obtain ⟨l⟩ := cap
 match l, h with
 | [a, b], _ => exact ⟨a, b, rfl⟩
theorem leaf_d {w : World} {R : Nat → Prop} {a : SpD} (h : a.names = []) : SpcD w R (spC a (.slice none 0 0) (.slice none 0 0)) a :=
 ⟨.slice none 0 0, .slice none 0 0, 0, rfl, by rw [h]; exact ⟨none, 0, rfl, Nat.le_refl _, fun h => absurd h (by simp [txts])⟩, by rw [h]; intro h; simp at h, rfl⟩
theorem names_d {w : World} {R : Nat → Prop} {a : SpD} {g n : Nat} {t : TypeId} (hn : a.names.length = n) (hb : Blk w g t (txts a.names).toArray) (hR : R g) : SpcD w R (spC a (.slice (some ⟨g, 0, none⟩) n n) (.slice none 0 0)) a := by
 subst hn
 refine ⟨_, .slice none 0 0, g, rfl, ⟨some ⟨g, 0, none⟩, a.names.length, by rw [txts_len], by rw [txts_len]; exact Nat.le_refl _, fun h0 => ⟨hb.lt, 0, rfl, fun j u hj => ?_⟩⟩, fun _ => hR, rfl⟩
 rw [Nat.zero_add, hb.cell]
 simpa using hj
set_option maxRecDepth 100000 in
set_option maxHeartbeats 8000000 in
theorem second_any (w : World) : Calls Tryd.prog 39 #[] w (NewXP (rootD, rootF 2) w) := by
 have N1 : ∀ W, Hid (Calls Tryd.prog 49 #[.string ⟨#[115, 104, 97, 112, 101, 100]⟩, .int .i64 3] W (fun r w' => r = .returned (.agg #[.string ⟨#[115, 104, 97, 112, 101, 100]⟩, .int .i64 1, .int .i64 3, .int .u64 0, .int .u64 0, .slice none 0 0, .bool false, .int .i64 0, .slice none 0 0]) ∧ Below W.heap.size W w')) := fun W => Lib.hid (leaf_any nShaped 3 W)
 have N2 : ∀ W, Hid (Calls Tryd.prog 51 #[.agg #[.string ⟨#[115, 104, 97, 112, 101, 100]⟩, .int .i64 1, .int .i64 3, .int .u64 0, .int .u64 0, .slice none 0 0, .bool false, .int .i64 0, .slice none 0 0]] W (fun r w' => r = .returned (.agg #[.string ⟨#[115, 104, 97, 112, 101, 100]⟩, .int .i64 1, .int .i64 3, .int .u64 0, .int .u64 0, .slice none 0 0, .bool true, .int .i64 0, .slice none 0 0]) ∧ Below W.heap.size W w')) := fun W => Lib.hid (must_any ⟨nShaped, 1, 3, 0, 0, [], false, 0⟩ none none 0 0 0 0 W)
 have N3 : ∀ W g, Hid (Calls Tryd.prog 56 #[.string ⟨#[107, 105, 110, 100]⟩, .slice (some ⟨g, 0, none⟩) 3 3] W (fun r w' => r = .returned (.agg #[.string ⟨#[107, 105, 110, 100]⟩, .int .i64 1, .int .i64 4, .int .u64 0, .int .u64 0, .slice (some ⟨g, 0, none⟩) 3 3, .bool false, .int .i64 0, .slice none 0 0]) ∧ Below W.heap.size W w')) := fun W g => Lib.hid (choice_any nKind [nEdge, nCore, nLab] (some ⟨g, 0, none⟩) 3 3 W)
 have H0 : Hid (Below w.heap.size w (w.alloc (.cells #[.string ⟨#[]⟩, .int .i64 0, .int .i64 0, .int .u64 0, .int .u64 0, .slice none 0 0, .bool false, .int .i64 0, .slice none 0 0] 34))) := Lib.hid ((Below.refl _ _).alloc (Nat.le_refl _) _)
 have R0 : Hid (Blk (w.alloc (.cells #[.string ⟨#[]⟩, .int .i64 0, .int .i64 0, .int .u64 0, .int .u64 0, .slice none 0 0, .bool false, .int .i64 0, .slice none 0 0] 34)) w.heap.size 34 #[.string ⟨#[]⟩, .int .i64 0, .int .i64 0, .int .u64 0, .int .u64 0, .slice none 0 0, .bool false, .int .i64 0, .slice none 0 0]) := Lib.hid (Blk.new w _ _)
 have NF : Hid (Calls Tryd.prog 38 #[] (w.alloc (.cells #[.string ⟨#[]⟩, .int .i64 0, .int .i64 0, .int .u64 0, .int .u64 0, .slice none 0 0, .bool false, .int .i64 0, .slice none 0 0] 34)) (NewXP (rootD, rootF 1) (w.alloc (.cells #[.string ⟨#[]⟩, .int .i64 0, .int .i64 0, .int .u64 0, .int .u64 0, .slice none 0 0, .bool false, .int .i64 0, .slice none 0 0] 34)))) := Lib.hid (first_any _)
 go_enter Tryd.func39, Tryd.ntmps39
 go_wp2_with fail
 refine NF.out.mono ?_
 rintro r w1 ⟨cs1, rfl, hX, hB⟩
 have HX : Hid (NewX (w.heap.size + 1) w1 cs1 (rootD, rootF 1)) := Lib.hid (by have := hX; simpa using this)
 have BF : Hid (Below w.heap.size w w1) := Lib.hid (H0.out.trans (hB.mono H0.out.size))
 have RF : Hid (Blk w1 w.heap.size 34 #[.string ⟨#[]⟩, .int .i64 0, .int .i64 0, .int .u64 0, .int .u64 0, .slice none 0 0, .bool false, .int .i64 0, .slice none 0 0]) := Lib.hid (R0.out.below hB R0.out.lt)
 have L1 : Hid (w.heap.size + 1 ≤ w1.heap.size) := Lib.hid RF.out.lt
 have H1 : Hid (Below w1.heap.size w1 w1) := Lib.hid (Below.refl _ _)
 have hsh := hX.shape
 obtain ⟨cB, cm, cA, cc, rfl⟩ := hsh
 clear hX hB H0 R0 NF
 go_wp2_with fail
 refine (N1 _).out.mono ?_
 rintro r w2 ⟨rfl, hB⟩
 have H2 : Hid (Below w1.heap.size w1 w2) := Lib.hid (H1.out.trans (hB.mono H1.out.size))
 clear hB H1
 go_wp2_with fail
 refine (N2 _).out.mono ?_
 rintro r w3 ⟨rfl, hB⟩
 have H3 : Hid (Below w1.heap.size w1 w3) := Lib.hid (H2.out.trans (hB.mono H2.out.size))
 clear hB H2
 go_wp2_with fail
 have HA : Hid (Calls Tryd.prog 55 #[.string ⟨#[108, 105, 109, 105, 116]⟩, .agg #[.string ⟨#[115, 104, 97, 112, 101, 100]⟩, .int .i64 1, .int .i64 3, .int .u64 0, .int .u64 0, .slice none 0 0, .bool true, .int .i64 0, .slice none 0 0]] w3 (MkP (.func 65) 2 (fun fv w' => FunV w' (Rw w1.heap.size (w.heap.size + 1) w') fv ⟨1, nLimit, (leafD nShaped 3 true)⟩ .nil) w3)) := Lib.hid (after_any nLimit (leafD nShaped 3 true) none 0 0 w1.heap.size (w.heap.size + 1) _ (leaf_d rfl) H3.out.size (by have := L1.out; have := H3.out.size; omega))
 refine HA.out.mono ?_
 rintro r w4 ⟨cap, hcp, rfl, hF, hB⟩
 obtain ⟨a4, b4, rfl⟩ := cap_two hcp
 have FA : Hid (FunV w4 (Rw w1.heap.size (w.heap.size + 1) w4) (.func (.func 65) #[] #[a4, b4]) ⟨1, nLimit, (leafD nShaped 3 true)⟩ .nil) := Lib.hid hF
 have H4 : Hid (Below w1.heap.size w1 w4) := Lib.hid (H3.out.trans (hB.mono H3.out.size))
 clear hB H3 hF hcp HA
 have hbs : Below w4.heap.size w4 (w4.alloc (.cells #[.func (.func 65) #[] #[a4, b4]] 91)) := (Below.refl _ _).alloc (Nat.le_refl _) _
 have SA : Hid (ChS (w4.alloc (.cells #[.func (.func 65) #[] #[a4, b4]] 91)) (Rw w1.heap.size (w.heap.size + 1) (w4.alloc (.cells #[.func (.func 65) #[] #[a4, b4]] 91))) (.slice (some ⟨w4.heap.size, 0, none⟩) 1 1) (.cons ⟨1, nLimit, leafD nShaped 3 true⟩ .nil .nil)) := Lib.hid (ChS.one FA.out H4.out.size (by have := L1.out; have := H4.out.size; omega))
 clear FA
 have HT1 : Hid (Below w1.heap.size w1 (w4.alloc (.cells #[.func (.func 65) #[] #[a4, b4]] 91))) := Lib.hid (H4.out.trans (hbs.mono H4.out.size))
 clear hbs H4
 go_wp2_with fail
 have HA : Hid (Calls Tryd.prog 54 #[.string ⟨#[99, 108, 97, 115, 115]⟩, .slice (some ⟨w4.heap.size, 0, none⟩) 1 1] (w4.alloc (.cells #[.func (.func 65) #[] #[a4, b4]] 91)) (MkP (.func 64) 2 (fun fv w' => FunV w' (Rw w1.heap.size (w.heap.size + 1) w') fv ⟨2, nClass, zeroD⟩ (.cons ⟨1, nLimit, leafD nShaped 3 true⟩ .nil .nil)) (w4.alloc (.cells #[.func (.func 65) #[] #[a4, b4]] 91)))) := Lib.hid (in_any nClass (some ⟨w4.heap.size, 0, none⟩) 1 (.cons ⟨1, nLimit, leafD nShaped 3 true⟩ .nil .nil) w1.heap.size (w.heap.size + 1) _ SA.out HT1.out.size (by have := L1.out; have := HT1.out.size; omega))
 refine HA.out.mono ?_
 rintro r w5 ⟨cap, hcp, rfl, hF, hB⟩
 obtain ⟨a5, b5, rfl⟩ := cap_two hcp
 clear SA
 have FB : Hid (FunV w5 (Rw w1.heap.size (w.heap.size + 1) w5) (.func (.func 64) #[] #[a5, b5]) ⟨2, nClass, zeroD⟩ (.cons ⟨1, nLimit, leafD nShaped 3 true⟩ .nil .nil)) := Lib.hid hF
 have H5 : Hid (Below w1.heap.size w1 w5) := Lib.hid (HT1.out.trans (hB.mono HT1.out.size))
 clear hB HT1 hF hcp HA
 have hbs : Below w5.heap.size w5 (w5.alloc (.cells #[.string ⟨#[101, 100, 103, 101]⟩, .string ⟨#[99, 111, 114, 101]⟩, .string ⟨#[108, 97, 98]⟩] 9)) := (Below.refl _ _).alloc (Nat.le_refl _) _
 have FB_s2 : Hid (FunV (w5.alloc (.cells #[.string ⟨#[101, 100, 103, 101]⟩, .string ⟨#[99, 111, 114, 101]⟩, .string ⟨#[108, 97, 98]⟩] 9)) (Rw w1.heap.size (w.heap.size + 1) (w5.alloc (.cells #[.string ⟨#[101, 100, 103, 101]⟩, .string ⟨#[99, 111, 114, 101]⟩, .string ⟨#[108, 97, 98]⟩] 9))) (.func (.func 64) #[] #[a5, b5]) ⟨2, nClass, zeroD⟩ (.cons ⟨1, nLimit, leafD nShaped 3 true⟩ .nil .nil)) := Lib.hid (FB.out.below hbs)
 clear FB
 have HN : Hid (SpcD (w5.alloc (.cells #[.string ⟨#[101, 100, 103, 101]⟩, .string ⟨#[99, 111, 114, 101]⟩, .string ⟨#[108, 97, 98]⟩] 9)) (Rw w1.heap.size (w.heap.size + 1) (w5.alloc (.cells #[.string ⟨#[101, 100, 103, 101]⟩, .string ⟨#[99, 111, 114, 101]⟩, .string ⟨#[108, 97, 98]⟩] 9))) (spC kindD (.slice (some ⟨w5.heap.size, 0, none⟩) 3 3) (.slice none 0 0)) kindD) := Lib.hid (names_d rfl (Blk.new w5 9 _) (Rw.of (Blk.new w5 _ _) H5.out.size (by have := L1.out; have := H5.out.size; omega)))
 have HT2 : Hid (Below w1.heap.size w1 (w5.alloc (.cells #[.string ⟨#[101, 100, 103, 101]⟩, .string ⟨#[99, 111, 114, 101]⟩, .string ⟨#[108, 97, 98]⟩] 9))) := Lib.hid (H5.out.trans (hbs.mono H5.out.size))
 clear hbs H5
 go_wp2_with fail
 refine (N3 _ _).out.mono ?_
 rintro r w6 ⟨rfl, hB⟩
 have FB_c6 : Hid (FunV w6 (Rw w1.heap.size (w.heap.size + 1) w6) (.func (.func 64) #[] #[a5, b5]) ⟨2, nClass, zeroD⟩ (.cons ⟨1, nLimit, leafD nShaped 3 true⟩ .nil .nil)) := Lib.hid (FB_s2.out.below hB)
 clear FB_s2
 have HN_c6 : Hid (SpcD w6 (Rw w1.heap.size (w.heap.size + 1) w6) (spC kindD (.slice (some ⟨w5.heap.size, 0, none⟩) 3 3) (.slice none 0 0)) kindD) := Lib.hid (HN.out.below hB)
 clear HN
 have H6 : Hid (Below w1.heap.size w1 w6) := Lib.hid (HT2.out.trans (hB.mono HT2.out.size))
 clear hB HT2
 go_wp2_with fail
 have HA : Hid (Calls Tryd.prog 55 #[.string ⟨#[100, 101, 102, 97, 117, 108, 116]⟩, .agg #[.string ⟨#[107, 105, 110, 100]⟩, .int .i64 1, .int .i64 4, .int .u64 0, .int .u64 0, .slice (some ⟨w5.heap.size, 0, none⟩) 3 3, .bool false, .int .i64 0, .slice none 0 0]] w6 (MkP (.func 65) 2 (fun fv w' => FunV w' (Rw w1.heap.size (w.heap.size + 1) w') fv ⟨1, nDefault, kindD⟩ .nil) w6)) := Lib.hid (after_any nDefault kindD (some ⟨w5.heap.size, 0, none⟩) 3 3 w1.heap.size (w.heap.size + 1) _ HN_c6.out H6.out.size (by have := L1.out; have := H6.out.size; omega))
 refine HA.out.mono ?_
 rintro r w7 ⟨cap, hcp, rfl, hF, hB⟩
 obtain ⟨a7, b7, rfl⟩ := cap_two hcp
 clear HN_c6
 have FB_c7 : Hid (FunV w7 (Rw w1.heap.size (w.heap.size + 1) w7) (.func (.func 64) #[] #[a5, b5]) ⟨2, nClass, zeroD⟩ (.cons ⟨1, nLimit, leafD nShaped 3 true⟩ .nil .nil)) := Lib.hid (FB_c6.out.below hB)
 clear FB_c6
 have FC : Hid (FunV w7 (Rw w1.heap.size (w.heap.size + 1) w7) (.func (.func 65) #[] #[a7, b7]) ⟨1, nDefault, kindD⟩ .nil) := Lib.hid hF
 have H7 : Hid (Below w1.heap.size w1 w7) := Lib.hid (H6.out.trans (hB.mono H6.out.size))
 clear hB H6 hF hcp HA
 have hbs : Below w7.heap.size w7 (w7.alloc (.cells #[.func (.func 64) #[] #[a5, b5], .func (.func 65) #[] #[a7, b7]] 91)) := (Below.refl _ _).alloc (Nat.le_refl _) _
 have SB : Hid (ChS (w7.alloc (.cells #[.func (.func 64) #[] #[a5, b5], .func (.func 65) #[] #[a7, b7]] 91)) (Rw w1.heap.size (w.heap.size + 1) (w7.alloc (.cells #[.func (.func 64) #[] #[a5, b5], .func (.func 65) #[] #[a7, b7]] 91))) (.slice (some ⟨w7.heap.size, 0, none⟩) 2 2) (.cons ⟨2, nClass, zeroD⟩ (.cons ⟨1, nLimit, leafD nShaped 3 true⟩ .nil .nil) (.cons ⟨1, nDefault, kindD⟩ .nil .nil))) := Lib.hid (ChS.two FB_c7.out FC.out H7.out.size (by have := L1.out; have := H7.out.size; omega))
 clear FB_c7
 clear FC
 have HT3 : Hid (Below w1.heap.size w1 (w7.alloc (.cells #[.func (.func 64) #[] #[a5, b5], .func (.func 65) #[] #[a7, b7]] 91))) := Lib.hid (H7.out.trans (hbs.mono H7.out.size))
 clear hbs H7
 go_wp2_with fail
 have HA : Hid (Calls Tryd.prog 54 #[.string ⟨#[112, 111, 114, 116]⟩, .slice (some ⟨w7.heap.size, 0, none⟩) 2 2] (w7.alloc (.cells #[.func (.func 64) #[] #[a5, b5], .func (.func 65) #[] #[a7, b7]] 91)) (MkP (.func 64) 2 (fun fv w' => FunV w' (Rw w1.heap.size (w.heap.size + 1) w') fv ⟨2, nPort, zeroD⟩ (.cons ⟨2, nClass, zeroD⟩ (.cons ⟨1, nLimit, leafD nShaped 3 true⟩ .nil .nil) (.cons ⟨1, nDefault, kindD⟩ .nil .nil))) (w7.alloc (.cells #[.func (.func 64) #[] #[a5, b5], .func (.func 65) #[] #[a7, b7]] 91)))) := Lib.hid (in_any nPort (some ⟨w7.heap.size, 0, none⟩) 2 (.cons ⟨2, nClass, zeroD⟩ (.cons ⟨1, nLimit, leafD nShaped 3 true⟩ .nil .nil) (.cons ⟨1, nDefault, kindD⟩ .nil .nil)) w1.heap.size (w.heap.size + 1) _ SB.out HT3.out.size (by have := L1.out; have := HT3.out.size; omega))
 refine HA.out.mono ?_
 rintro r w8 ⟨cap, hcp, rfl, hF, hB⟩
 obtain ⟨a8, b8, rfl⟩ := cap_two hcp
 clear SB
 have FD : Hid (FunV w8 (Rw w1.heap.size (w.heap.size + 1) w8) (.func (.func 64) #[] #[a8, b8]) ⟨2, nPort, zeroD⟩ (.cons ⟨2, nClass, zeroD⟩ (.cons ⟨1, nLimit, leafD nShaped 3 true⟩ .nil .nil) (.cons ⟨1, nDefault, kindD⟩ .nil .nil))) := Lib.hid hF
 have H8 : Hid (Below w1.heap.size w1 w8) := Lib.hid (HT3.out.trans (hB.mono HT3.out.size))
 clear hB HT3 hF hcp HA
 have hbs : Below w8.heap.size w8 (w8.alloc (.cells #[.func (.func 64) #[] #[a8, b8]] 91)) := (Below.refl _ _).alloc (Nat.le_refl _) _
 have SC : Hid (ChS (w8.alloc (.cells #[.func (.func 64) #[] #[a8, b8]] 91)) (Rw w1.heap.size (w.heap.size + 1) (w8.alloc (.cells #[.func (.func 64) #[] #[a8, b8]] 91))) (.slice (some ⟨w8.heap.size, 0, none⟩) 1 1) (.cons ⟨2, nPort, zeroD⟩ (.cons ⟨2, nClass, zeroD⟩ (.cons ⟨1, nLimit, leafD nShaped 3 true⟩ .nil .nil) (.cons ⟨1, nDefault, kindD⟩ .nil .nil)) .nil)) := Lib.hid (ChS.one FD.out H8.out.size (by have := L1.out; have := H8.out.size; omega))
 clear FD
 have HT4 : Hid (Below w1.heap.size w1 (w8.alloc (.cells #[.func (.func 64) #[] #[a8, b8]] 91))) := Lib.hid (H8.out.trans (hbs.mono H8.out.size))
 clear hbs H8
 go_wp2_with fail
 have HA := Lib.hid (new_changed HX.out L1.out HT4.out SC.out (by decide) second_ok)
 refine HA.out.mono ?_
 rintro r w9 ⟨cs2, rfl, hX2, hB2⟩
 have e2 : runC (.cons ⟨2, nPort, zeroD⟩ (.cons ⟨2, nClass, zeroD⟩ (.cons ⟨1, nLimit, leafD nShaped 3 true⟩ .nil .nil) (.cons ⟨1, nDefault, kindD⟩ .nil .nil)) .nil) (rootD, rootF 1) = (rootD, rootF 2) := second_is
 rw [e2] at hX2
 obtain ⟨dB, dm, dA, dc, rfl⟩ := hX2.shape
 have RZ : Hid (Blk w9 w.heap.size 34 #[.string ⟨#[]⟩, .int .i64 0, .int .i64 0, .int .u64 0, .int .u64 0, .slice none 0 0, .bool false, .int .i64 0, .slice none 0 0]) := Lib.hid ((RF.out.below HT4.out RF.out.lt).below hB2 (by omega))
 have HE : Hid (Below w.heap.size w (set9 w9 w.heap.size (.string (txt rootD.name)) (.int .i64 (rootD.kind : Int)) (.int .i64 (rootD.typ : Int)) (.int .u64 (rootD.low : Int)) (.int .u64 (rootD.high : Int)) (.slice dB rootD.names.length dm) (.bool rootD.must) (.int .i64 (rootD.most : Int)) (.slice dA (rootF 2).len dc))) := Lib.hid (((BF.out.trans (HT4.out.mono (by have := L1.out; omega))).trans (hB2.mono (by omega))).trans (set9_below (Nat.le_refl _)))
 have RE : Hid (Blk (set9 w9 w.heap.size (.string (txt rootD.name)) (.int .i64 (rootD.kind : Int)) (.int .i64 (rootD.typ : Int)) (.int .u64 (rootD.low : Int)) (.int .u64 (rootD.high : Int)) (.slice dB rootD.names.length dm) (.bool rootD.must) (.int .i64 (rootD.most : Int)) (.slice dA (rootF 2).len dc)) w.heap.size 34 #[.string (txt rootD.name), .int .i64 (rootD.kind : Int), .int .i64 (rootD.typ : Int), .int .u64 (rootD.low : Int), .int .u64 (rootD.high : Int), .slice dB rootD.names.length dm, .bool rootD.must, .int .i64 (rootD.most : Int), .slice dA (rootF 2).len dc]) := Lib.hid (RZ.out.set9 _ _ _ _ _ _ _ _ _)
 have XE : Hid (NewX w.heap.size (set9 w9 w.heap.size (.string (txt rootD.name)) (.int .i64 (rootD.kind : Int)) (.int .i64 (rootD.typ : Int)) (.int .u64 (rootD.low : Int)) (.int .u64 (rootD.high : Int)) (.slice dB rootD.names.length dm) (.bool rootD.must) (.int .i64 (rootD.most : Int)) (.slice dA (rootF 2).len dc)) [.string (txt rootD.name), .int .i64 (rootD.kind : Int), .int .i64 (rootD.typ : Int), .int .u64 (rootD.low : Int), .int .u64 (rootD.high : Int), .slice dB rootD.names.length dm, .bool rootD.must, .int .i64 (rootD.most : Int), .slice dA (rootF 2).len dc] (rootD, rootF 2)) := Lib.hid ((hX2.set9 (by omega) _ _ _ _ _ _ _ _ _).mono (by omega))
 have f0 : w9.frozen? ⟨w.heap.size, 0, none⟩ = false := RZ.out.frozen 0
 have f1 : w9.frozen? ⟨w.heap.size, 1, none⟩ = false := RZ.out.frozen 1
 have f2 : w9.frozen? ⟨w.heap.size, 2, none⟩ = false := RZ.out.frozen 2
 have f3 : w9.frozen? ⟨w.heap.size, 3, none⟩ = false := RZ.out.frozen 3
 have f4 : w9.frozen? ⟨w.heap.size, 4, none⟩ = false := RZ.out.frozen 4
 have f5 : w9.frozen? ⟨w.heap.size, 5, none⟩ = false := RZ.out.frozen 5
 have f6 : w9.frozen? ⟨w.heap.size, 6, none⟩ = false := RZ.out.frozen 6
 have f7 : w9.frozen? ⟨w.heap.size, 7, none⟩ = false := RZ.out.frozen 7
 have f8 : w9.frozen? ⟨w.heap.size, 8, none⟩ = false := RZ.out.frozen 8
 have q0 : w9.cell? ⟨w.heap.size, 0, none⟩ = some (.string ⟨#[]⟩) := RZ.out.cell 0
 have q1 : w9.cell? ⟨w.heap.size, 1, none⟩ = some (.int .i64 0) := RZ.out.cell 1
 have q2 : w9.cell? ⟨w.heap.size, 2, none⟩ = some (.int .i64 0) := RZ.out.cell 2
 have q3 : w9.cell? ⟨w.heap.size, 3, none⟩ = some (.int .u64 0) := RZ.out.cell 3
 have q4 : w9.cell? ⟨w.heap.size, 4, none⟩ = some (.int .u64 0) := RZ.out.cell 4
 have q5 : w9.cell? ⟨w.heap.size, 5, none⟩ = some (.slice none 0 0) := RZ.out.cell 5
 have q6 : w9.cell? ⟨w.heap.size, 6, none⟩ = some (.bool false) := RZ.out.cell 6
 have q7 : w9.cell? ⟨w.heap.size, 7, none⟩ = some (.int .i64 0) := RZ.out.cell 7
 have q8 : w9.cell? ⟨w.heap.size, 8, none⟩ = some (.slice none 0 0) := RZ.out.cell 8
 clear RZ HA hX2 hB2 e2 HX BF RF L1 HT4
 go_wp2
 refine bodyPost_ret (results_cell_row rfl _ _ w.heap.size 34 _ (0, 0) _ rfl RE.out Tryd.underlying34 rfl (by kernel_rfl)) rfl ?_
 exact ⟨_, rfl, XE.out, HE.out⟩
set_option maxRecDepth 100000 in
set_option maxHeartbeats 8000000 in
theorem third_any (w : World) : Calls Tryd.prog 40 #[] w (NewXP (rootD, rootF 3) w) := by
 have N1 : ∀ W, Hid (Calls Tryd.prog 52 #[.string ⟨#[119, 97, 105, 116]⟩, .int .i64 1, .int .u64 1, .int .u64 1000] W (fun r w' => r = .returned (.agg #[.string ⟨#[119, 97, 105, 116]⟩, .int .i64 1, .int .i64 1, .int .u64 1, .int .u64 1000, .slice none 0 0, .bool false, .int .i64 0, .slice none 0 0]) ∧ Below W.heap.size W w')) := fun W => Lib.hid (number_any nWait 1 1 1000 W)
 have H0 : Hid (Below w.heap.size w (w.alloc (.cells #[.string ⟨#[]⟩, .int .i64 0, .int .i64 0, .int .u64 0, .int .u64 0, .slice none 0 0, .bool false, .int .i64 0, .slice none 0 0] 34))) := Lib.hid ((Below.refl _ _).alloc (Nat.le_refl _) _)
 have R0 : Hid (Blk (w.alloc (.cells #[.string ⟨#[]⟩, .int .i64 0, .int .i64 0, .int .u64 0, .int .u64 0, .slice none 0 0, .bool false, .int .i64 0, .slice none 0 0] 34)) w.heap.size 34 #[.string ⟨#[]⟩, .int .i64 0, .int .i64 0, .int .u64 0, .int .u64 0, .slice none 0 0, .bool false, .int .i64 0, .slice none 0 0]) := Lib.hid (Blk.new w _ _)
 have NF : Hid (Calls Tryd.prog 39 #[] (w.alloc (.cells #[.string ⟨#[]⟩, .int .i64 0, .int .i64 0, .int .u64 0, .int .u64 0, .slice none 0 0, .bool false, .int .i64 0, .slice none 0 0] 34)) (NewXP (rootD, rootF 2) (w.alloc (.cells #[.string ⟨#[]⟩, .int .i64 0, .int .i64 0, .int .u64 0, .int .u64 0, .slice none 0 0, .bool false, .int .i64 0, .slice none 0 0] 34)))) := Lib.hid (second_any _)
 go_enter Tryd.func40, Tryd.ntmps40
 go_wp2_with fail
 refine NF.out.mono ?_
 rintro r w1 ⟨cs1, rfl, hX, hB⟩
 have HX : Hid (NewX (w.heap.size + 1) w1 cs1 (rootD, rootF 2)) := Lib.hid (by have := hX; simpa using this)
 have BF : Hid (Below w.heap.size w w1) := Lib.hid (H0.out.trans (hB.mono H0.out.size))
 have RF : Hid (Blk w1 w.heap.size 34 #[.string ⟨#[]⟩, .int .i64 0, .int .i64 0, .int .u64 0, .int .u64 0, .slice none 0 0, .bool false, .int .i64 0, .slice none 0 0]) := Lib.hid (R0.out.below hB R0.out.lt)
 have L1 : Hid (w.heap.size + 1 ≤ w1.heap.size) := Lib.hid RF.out.lt
 have H1 : Hid (Below w1.heap.size w1 w1) := Lib.hid (Below.refl _ _)
 have hsh := hX.shape
 obtain ⟨cB, cm, cA, cc, rfl⟩ := hsh
 clear hX hB H0 R0 NF
 go_wp2_with fail
 have HA : Hid (Calls Tryd.prog 57 #[.string ⟨#[100, 101, 112, 116, 104]⟩] w1 (MkP (.func 67) 1 (fun fv w' => FunV w' (Rw w1.heap.size (w.heap.size + 1) w') fv ⟨0, nDepth, zeroD⟩ .nil) w1)) := Lib.hid (named_any nDepth w1.heap.size (w.heap.size + 1) _ H1.out.size (by have := L1.out; have := H1.out.size; omega))
 refine HA.out.mono ?_
 rintro r w2 ⟨cap, hcp, rfl, hF, hB⟩
 obtain ⟨a2, rfl⟩ := cap_one hcp
 have FA : Hid (FunV w2 (Rw w1.heap.size (w.heap.size + 1) w2) (.func (.func 67) #[] #[a2]) ⟨0, nDepth, zeroD⟩ .nil) := Lib.hid hF
 have H2 : Hid (Below w1.heap.size w1 w2) := Lib.hid (H1.out.trans (hB.mono H1.out.size))
 clear hB H1 hF hcp HA
 have hbs : Below w2.heap.size w2 (w2.alloc (.cells #[.func (.func 67) #[] #[a2]] 91)) := (Below.refl _ _).alloc (Nat.le_refl _) _
 have SA : Hid (ChS (w2.alloc (.cells #[.func (.func 67) #[] #[a2]] 91)) (Rw w1.heap.size (w.heap.size + 1) (w2.alloc (.cells #[.func (.func 67) #[] #[a2]] 91))) (.slice (some ⟨w2.heap.size, 0, none⟩) 1 1) (.cons ⟨0, nDepth, zeroD⟩ .nil .nil)) := Lib.hid (ChS.one FA.out H2.out.size (by have := L1.out; have := H2.out.size; omega))
 clear FA
 have HT1 : Hid (Below w1.heap.size w1 (w2.alloc (.cells #[.func (.func 67) #[] #[a2]] 91))) := Lib.hid (H2.out.trans (hbs.mono H2.out.size))
 clear hbs H2
 go_wp2_with fail
 have HA : Hid (Calls Tryd.prog 54 #[.string ⟨#[108, 105, 109, 105, 116]⟩, .slice (some ⟨w2.heap.size, 0, none⟩) 1 1] (w2.alloc (.cells #[.func (.func 67) #[] #[a2]] 91)) (MkP (.func 64) 2 (fun fv w' => FunV w' (Rw w1.heap.size (w.heap.size + 1) w') fv ⟨2, nLimit, zeroD⟩ (.cons ⟨0, nDepth, zeroD⟩ .nil .nil)) (w2.alloc (.cells #[.func (.func 67) #[] #[a2]] 91)))) := Lib.hid (in_any nLimit (some ⟨w2.heap.size, 0, none⟩) 1 (.cons ⟨0, nDepth, zeroD⟩ .nil .nil) w1.heap.size (w.heap.size + 1) _ SA.out HT1.out.size (by have := L1.out; have := HT1.out.size; omega))
 refine HA.out.mono ?_
 rintro r w3 ⟨cap, hcp, rfl, hF, hB⟩
 obtain ⟨a3, b3, rfl⟩ := cap_two hcp
 clear SA
 have FB : Hid (FunV w3 (Rw w1.heap.size (w.heap.size + 1) w3) (.func (.func 64) #[] #[a3, b3]) ⟨2, nLimit, zeroD⟩ (.cons ⟨0, nDepth, zeroD⟩ .nil .nil)) := Lib.hid hF
 have H3 : Hid (Below w1.heap.size w1 w3) := Lib.hid (HT1.out.trans (hB.mono HT1.out.size))
 clear hB HT1 hF hcp HA
 have hbs : Below w3.heap.size w3 (w3.alloc (.cells #[.func (.func 64) #[] #[a3, b3]] 91)) := (Below.refl _ _).alloc (Nat.le_refl _) _
 have SB : Hid (ChS (w3.alloc (.cells #[.func (.func 64) #[] #[a3, b3]] 91)) (Rw w1.heap.size (w.heap.size + 1) (w3.alloc (.cells #[.func (.func 64) #[] #[a3, b3]] 91))) (.slice (some ⟨w3.heap.size, 0, none⟩) 1 1) (.cons ⟨2, nLimit, zeroD⟩ (.cons ⟨0, nDepth, zeroD⟩ .nil .nil) .nil)) := Lib.hid (ChS.one FB.out H3.out.size (by have := L1.out; have := H3.out.size; omega))
 clear FB
 have HT2 : Hid (Below w1.heap.size w1 (w3.alloc (.cells #[.func (.func 64) #[] #[a3, b3]] 91))) := Lib.hid (H3.out.trans (hbs.mono H3.out.size))
 clear hbs H3
 go_wp2_with fail
 have HA : Hid (Calls Tryd.prog 54 #[.string ⟨#[99, 108, 97, 115, 115]⟩, .slice (some ⟨w3.heap.size, 0, none⟩) 1 1] (w3.alloc (.cells #[.func (.func 64) #[] #[a3, b3]] 91)) (MkP (.func 64) 2 (fun fv w' => FunV w' (Rw w1.heap.size (w.heap.size + 1) w') fv ⟨2, nClass, zeroD⟩ (.cons ⟨2, nLimit, zeroD⟩ (.cons ⟨0, nDepth, zeroD⟩ .nil .nil) .nil)) (w3.alloc (.cells #[.func (.func 64) #[] #[a3, b3]] 91)))) := Lib.hid (in_any nClass (some ⟨w3.heap.size, 0, none⟩) 1 (.cons ⟨2, nLimit, zeroD⟩ (.cons ⟨0, nDepth, zeroD⟩ .nil .nil) .nil) w1.heap.size (w.heap.size + 1) _ SB.out HT2.out.size (by have := L1.out; have := HT2.out.size; omega))
 refine HA.out.mono ?_
 rintro r w4 ⟨cap, hcp, rfl, hF, hB⟩
 obtain ⟨a4, b4, rfl⟩ := cap_two hcp
 clear SB
 have FC : Hid (FunV w4 (Rw w1.heap.size (w.heap.size + 1) w4) (.func (.func 64) #[] #[a4, b4]) ⟨2, nClass, zeroD⟩ (.cons ⟨2, nLimit, zeroD⟩ (.cons ⟨0, nDepth, zeroD⟩ .nil .nil) .nil)) := Lib.hid hF
 have H4 : Hid (Below w1.heap.size w1 w4) := Lib.hid (HT2.out.trans (hB.mono HT2.out.size))
 clear hB HT2 hF hcp HA
 have hbs : Below w4.heap.size w4 (w4.alloc (.cells #[.func (.func 64) #[] #[a4, b4]] 91)) := (Below.refl _ _).alloc (Nat.le_refl _) _
 have SC : Hid (ChS (w4.alloc (.cells #[.func (.func 64) #[] #[a4, b4]] 91)) (Rw w1.heap.size (w.heap.size + 1) (w4.alloc (.cells #[.func (.func 64) #[] #[a4, b4]] 91))) (.slice (some ⟨w4.heap.size, 0, none⟩) 1 1) (.cons ⟨2, nClass, zeroD⟩ (.cons ⟨2, nLimit, zeroD⟩ (.cons ⟨0, nDepth, zeroD⟩ .nil .nil) .nil) .nil)) := Lib.hid (ChS.one FC.out H4.out.size (by have := L1.out; have := H4.out.size; omega))
 clear FC
 have HT3 : Hid (Below w1.heap.size w1 (w4.alloc (.cells #[.func (.func 64) #[] #[a4, b4]] 91))) := Lib.hid (H4.out.trans (hbs.mono H4.out.size))
 clear hbs H4
 go_wp2_with fail
 have HA : Hid (Calls Tryd.prog 54 #[.string ⟨#[112, 111, 114, 116]⟩, .slice (some ⟨w4.heap.size, 0, none⟩) 1 1] (w4.alloc (.cells #[.func (.func 64) #[] #[a4, b4]] 91)) (MkP (.func 64) 2 (fun fv w' => FunV w' (Rw w1.heap.size (w.heap.size + 1) w') fv ⟨2, nPort, zeroD⟩ (.cons ⟨2, nClass, zeroD⟩ (.cons ⟨2, nLimit, zeroD⟩ (.cons ⟨0, nDepth, zeroD⟩ .nil .nil) .nil) .nil)) (w4.alloc (.cells #[.func (.func 64) #[] #[a4, b4]] 91)))) := Lib.hid (in_any nPort (some ⟨w4.heap.size, 0, none⟩) 1 (.cons ⟨2, nClass, zeroD⟩ (.cons ⟨2, nLimit, zeroD⟩ (.cons ⟨0, nDepth, zeroD⟩ .nil .nil) .nil) .nil) w1.heap.size (w.heap.size + 1) _ SC.out HT3.out.size (by have := L1.out; have := HT3.out.size; omega))
 refine HA.out.mono ?_
 rintro r w5 ⟨cap, hcp, rfl, hF, hB⟩
 obtain ⟨a5, b5, rfl⟩ := cap_two hcp
 clear SC
 have FD : Hid (FunV w5 (Rw w1.heap.size (w.heap.size + 1) w5) (.func (.func 64) #[] #[a5, b5]) ⟨2, nPort, zeroD⟩ (.cons ⟨2, nClass, zeroD⟩ (.cons ⟨2, nLimit, zeroD⟩ (.cons ⟨0, nDepth, zeroD⟩ .nil .nil) .nil) .nil)) := Lib.hid hF
 have H5 : Hid (Below w1.heap.size w1 w5) := Lib.hid (HT3.out.trans (hB.mono HT3.out.size))
 clear hB HT3 hF hcp HA
 go_wp2_with fail
 refine (N1 _).out.mono ?_
 rintro r w6 ⟨rfl, hB⟩
 have FD_c6 : Hid (FunV w6 (Rw w1.heap.size (w.heap.size + 1) w6) (.func (.func 64) #[] #[a5, b5]) ⟨2, nPort, zeroD⟩ (.cons ⟨2, nClass, zeroD⟩ (.cons ⟨2, nLimit, zeroD⟩ (.cons ⟨0, nDepth, zeroD⟩ .nil .nil) .nil) .nil)) := Lib.hid (FD.out.below hB)
 clear FD
 have H6 : Hid (Below w1.heap.size w1 w6) := Lib.hid (H5.out.trans (hB.mono H5.out.size))
 clear hB H5
 go_wp2_with fail
 have HA : Hid (Calls Tryd.prog 55 #[.string ⟨#[112, 111, 114, 116]⟩, .agg #[.string ⟨#[119, 97, 105, 116]⟩, .int .i64 1, .int .i64 1, .int .u64 1, .int .u64 1000, .slice none 0 0, .bool false, .int .i64 0, .slice none 0 0]] w6 (MkP (.func 65) 2 (fun fv w' => FunV w' (Rw w1.heap.size (w.heap.size + 1) w') fv ⟨1, nPort, ⟨nWait, 1, 1, 1, 1000, [], false, 0⟩⟩ .nil) w6)) := Lib.hid (after_any nPort ⟨nWait, 1, 1, 1, 1000, [], false, 0⟩ none 0 0 w1.heap.size (w.heap.size + 1) _ (leaf_d rfl) H6.out.size (by have := L1.out; have := H6.out.size; omega))
 refine HA.out.mono ?_
 rintro r w7 ⟨cap, hcp, rfl, hF, hB⟩
 obtain ⟨a7, b7, rfl⟩ := cap_two hcp
 have FD_c7 : Hid (FunV w7 (Rw w1.heap.size (w.heap.size + 1) w7) (.func (.func 64) #[] #[a5, b5]) ⟨2, nPort, zeroD⟩ (.cons ⟨2, nClass, zeroD⟩ (.cons ⟨2, nLimit, zeroD⟩ (.cons ⟨0, nDepth, zeroD⟩ .nil .nil) .nil) .nil)) := Lib.hid (FD_c6.out.below hB)
 clear FD_c6
 have FE : Hid (FunV w7 (Rw w1.heap.size (w.heap.size + 1) w7) (.func (.func 65) #[] #[a7, b7]) ⟨1, nPort, ⟨nWait, 1, 1, 1, 1000, [], false, 0⟩⟩ .nil) := Lib.hid hF
 have H7 : Hid (Below w1.heap.size w1 w7) := Lib.hid (H6.out.trans (hB.mono H6.out.size))
 clear hB H6 hF hcp HA
 have hbs : Below w7.heap.size w7 (w7.alloc (.cells #[.func (.func 64) #[] #[a5, b5], .func (.func 65) #[] #[a7, b7]] 91)) := (Below.refl _ _).alloc (Nat.le_refl _) _
 have SD : Hid (ChS (w7.alloc (.cells #[.func (.func 64) #[] #[a5, b5], .func (.func 65) #[] #[a7, b7]] 91)) (Rw w1.heap.size (w.heap.size + 1) (w7.alloc (.cells #[.func (.func 64) #[] #[a5, b5], .func (.func 65) #[] #[a7, b7]] 91))) (.slice (some ⟨w7.heap.size, 0, none⟩) 2 2) (.cons ⟨2, nPort, zeroD⟩ (.cons ⟨2, nClass, zeroD⟩ (.cons ⟨2, nLimit, zeroD⟩ (.cons ⟨0, nDepth, zeroD⟩ .nil .nil) .nil) .nil) (.cons ⟨1, nPort, ⟨nWait, 1, 1, 1, 1000, [], false, 0⟩⟩ .nil .nil))) := Lib.hid (ChS.two FD_c7.out FE.out H7.out.size (by have := L1.out; have := H7.out.size; omega))
 clear FD_c7
 clear FE
 have HT4 : Hid (Below w1.heap.size w1 (w7.alloc (.cells #[.func (.func 64) #[] #[a5, b5], .func (.func 65) #[] #[a7, b7]] 91))) := Lib.hid (H7.out.trans (hbs.mono H7.out.size))
 clear hbs H7
 go_wp2_with fail
 have HA := Lib.hid (new_changed HX.out L1.out HT4.out SD.out (by decide) third_ok)
 refine HA.out.mono ?_
 rintro r w8 ⟨cs2, rfl, hX2, hB2⟩
 have e2 : runC (.cons ⟨2, nPort, zeroD⟩ (.cons ⟨2, nClass, zeroD⟩ (.cons ⟨2, nLimit, zeroD⟩ (.cons ⟨0, nDepth, zeroD⟩ .nil .nil) .nil) .nil) (.cons ⟨1, nPort, ⟨nWait, 1, 1, 1, 1000, [], false, 0⟩⟩ .nil .nil)) (rootD, rootF 2) = (rootD, rootF 3) := third_is
 rw [e2] at hX2
 obtain ⟨dB, dm, dA, dc, rfl⟩ := hX2.shape
 have RZ : Hid (Blk w8 w.heap.size 34 #[.string ⟨#[]⟩, .int .i64 0, .int .i64 0, .int .u64 0, .int .u64 0, .slice none 0 0, .bool false, .int .i64 0, .slice none 0 0]) := Lib.hid ((RF.out.below HT4.out RF.out.lt).below hB2 (by omega))
 have HE : Hid (Below w.heap.size w (set9 w8 w.heap.size (.string (txt rootD.name)) (.int .i64 (rootD.kind : Int)) (.int .i64 (rootD.typ : Int)) (.int .u64 (rootD.low : Int)) (.int .u64 (rootD.high : Int)) (.slice dB rootD.names.length dm) (.bool rootD.must) (.int .i64 (rootD.most : Int)) (.slice dA (rootF 3).len dc))) := Lib.hid (((BF.out.trans (HT4.out.mono (by have := L1.out; omega))).trans (hB2.mono (by omega))).trans (set9_below (Nat.le_refl _)))
 have RE : Hid (Blk (set9 w8 w.heap.size (.string (txt rootD.name)) (.int .i64 (rootD.kind : Int)) (.int .i64 (rootD.typ : Int)) (.int .u64 (rootD.low : Int)) (.int .u64 (rootD.high : Int)) (.slice dB rootD.names.length dm) (.bool rootD.must) (.int .i64 (rootD.most : Int)) (.slice dA (rootF 3).len dc)) w.heap.size 34 #[.string (txt rootD.name), .int .i64 (rootD.kind : Int), .int .i64 (rootD.typ : Int), .int .u64 (rootD.low : Int), .int .u64 (rootD.high : Int), .slice dB rootD.names.length dm, .bool rootD.must, .int .i64 (rootD.most : Int), .slice dA (rootF 3).len dc]) := Lib.hid (RZ.out.set9 _ _ _ _ _ _ _ _ _)
 have XE : Hid (NewX w.heap.size (set9 w8 w.heap.size (.string (txt rootD.name)) (.int .i64 (rootD.kind : Int)) (.int .i64 (rootD.typ : Int)) (.int .u64 (rootD.low : Int)) (.int .u64 (rootD.high : Int)) (.slice dB rootD.names.length dm) (.bool rootD.must) (.int .i64 (rootD.most : Int)) (.slice dA (rootF 3).len dc)) [.string (txt rootD.name), .int .i64 (rootD.kind : Int), .int .i64 (rootD.typ : Int), .int .u64 (rootD.low : Int), .int .u64 (rootD.high : Int), .slice dB rootD.names.length dm, .bool rootD.must, .int .i64 (rootD.most : Int), .slice dA (rootF 3).len dc] (rootD, rootF 3)) := Lib.hid ((hX2.set9 (by omega) _ _ _ _ _ _ _ _ _).mono (by omega))
 have f0 : w8.frozen? ⟨w.heap.size, 0, none⟩ = false := RZ.out.frozen 0
 have f1 : w8.frozen? ⟨w.heap.size, 1, none⟩ = false := RZ.out.frozen 1
 have f2 : w8.frozen? ⟨w.heap.size, 2, none⟩ = false := RZ.out.frozen 2
 have f3 : w8.frozen? ⟨w.heap.size, 3, none⟩ = false := RZ.out.frozen 3
 have f4 : w8.frozen? ⟨w.heap.size, 4, none⟩ = false := RZ.out.frozen 4
 have f5 : w8.frozen? ⟨w.heap.size, 5, none⟩ = false := RZ.out.frozen 5
 have f6 : w8.frozen? ⟨w.heap.size, 6, none⟩ = false := RZ.out.frozen 6
 have f7 : w8.frozen? ⟨w.heap.size, 7, none⟩ = false := RZ.out.frozen 7
 have f8 : w8.frozen? ⟨w.heap.size, 8, none⟩ = false := RZ.out.frozen 8
 have q0 : w8.cell? ⟨w.heap.size, 0, none⟩ = some (.string ⟨#[]⟩) := RZ.out.cell 0
 have q1 : w8.cell? ⟨w.heap.size, 1, none⟩ = some (.int .i64 0) := RZ.out.cell 1
 have q2 : w8.cell? ⟨w.heap.size, 2, none⟩ = some (.int .i64 0) := RZ.out.cell 2
 have q3 : w8.cell? ⟨w.heap.size, 3, none⟩ = some (.int .u64 0) := RZ.out.cell 3
 have q4 : w8.cell? ⟨w.heap.size, 4, none⟩ = some (.int .u64 0) := RZ.out.cell 4
 have q5 : w8.cell? ⟨w.heap.size, 5, none⟩ = some (.slice none 0 0) := RZ.out.cell 5
 have q6 : w8.cell? ⟨w.heap.size, 6, none⟩ = some (.bool false) := RZ.out.cell 6
 have q7 : w8.cell? ⟨w.heap.size, 7, none⟩ = some (.int .i64 0) := RZ.out.cell 7
 have q8 : w8.cell? ⟨w.heap.size, 8, none⟩ = some (.slice none 0 0) := RZ.out.cell 8
 clear RZ HA hX2 hB2 e2 HX BF RF L1 HT4
 go_wp2
 refine bodyPost_ret (results_cell_row rfl _ _ w.heap.size 34 _ (0, 0) _ rfl RE.out Tryd.underlying34 rfl (by kernel_rfl)) rfl ?_
 exact ⟨_, rfl, XE.out, HE.out⟩
end Go.Proofs.YtikmilcdibldhaaDoor

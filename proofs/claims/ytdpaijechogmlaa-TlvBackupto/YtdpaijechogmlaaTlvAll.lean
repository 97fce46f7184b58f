/-
  What the document's All answers for items (package tollbarref03): their bytes. No condition but those of each theorem.
-/
import Derived.Test.YtdpaijechogmlaaTlvMany
import Derived.Test.YtdpaijechogmlaaVarRef
import Derived.Outline
namespace Go.Proofs.Ytdpaijechogmlaa
open Go.RowKit
set_option linter.unusedSimpArgs false

def AllPost (f : Fo) (w : World) (r : Ending) (w' : World) : Prop := r = .returned (.string (txt f.all)) ∧ Below w.heap.size w w'

theorem pow_ten' {x : Nat} (h : x < 18446744073709551616) : x < 128 ^ (9 + 1) := by
  have : (18446744073709551616 : Nat) < 128 ^ (9 + 1) := by decide
  omega
theorem rput_at (x : Nat) (xI : Int) (P : List UInt8) (w : World) (h : x < 18446744073709551616) (e : xI = (x : Int)) (hP : P = encV 9 x) :
    Calls Try.prog 28 #[.int .u64 xI] w fun r w' => r = .returned (.string (txt P)) ∧ Below w.heap.size w w' := by
  subst e hP
  exact rput_any 9 (by omega) x w (pow_ten' h) h

theorem Fo.all_take (j : Nat) {f : Fo} {t : Nat} {d : List UInt8} {k : Fo} (h : Fo.take (j + 1) f = (Fo.take j f).app (.cons t d k .nil)) :
    (Fo.take (j + 1) f).all = (Fo.take j f).all ++ ((encV 9 t ++ encV 9 (Fo.inn t d k.all).length) ++ Fo.inn t d k.all) := by
  rw [h, Fo.all_app]
  simp only [Fo.all, List.append_nil, List.append_assoc]
theorem Fo.all_take_le (j : Nat) (f : Fo) : (Fo.take j f).all.length ≤ f.all.length := by
  have h := Fo.all_app (Fo.take j f) (Fo.drop j f)
  rw [Fo.take_app_drop] at h
  rw [h, List.length_append]; omega

set_option maxRecDepth 100000 in
set_option maxHeartbeats 4000000 in
theorem all_any (f : Fo) : ∀ (w : World) (v : Value), FV DataR w (Lo w) v f → f.sz ≤ 1099511627776 → Calls Try.prog 16 #[v] w (AllPost f w) := by
  refine Fo.byKids (P := fun f => ∀ (w : World) (v : Value), FV DataR w (Lo w) v f → f.sz ≤ 1099511627776 → Calls Try.prog 16 #[v] w (AllPost f w)) ?_ f
  clear f
  intro f hkids w v hv hsz
  obtain ⟨A, c, rfl⟩ := hv.shape
  have hws := f.wt_le_sz
  have hlw := f.len_le_wt
  have hal := f.all_le
  have hlen40 : f.len ≤ 1099511627776 := by omega
  have hall : f.all.length ≤ 22000000000000 := by omega
  have HK : Hid (Fo.kidsAll (fun f => ∀ (w : World) (v : Value), FV DataR w (Lo w) v f → f.sz ≤ 1099511627776 → Calls Try.prog 16 #[v] w (AllPost f w)) f) := Lib.hid hkids
  clear hkids hws hlw hal
  go_enter Try.func16, Try.ntmps16
  go_wp2
  go_loopw [3, 4] (fun u i wr => ∃ (j : Nat) (T : List UInt8), j ≤ f.len ∧ i = .int .i64 (j : Int) ∧ u = .string (txt T) ∧ Hid (T = (Fo.take j f).all) ∧ Below w.heap.size w wr) (fun _ i _ => f.len - (intOf i).toNat)
  case atStart => exact ⟨0, [], Nat.zero_le _, rfl, rfl, Lib.hid rfl, Below.refl _ _⟩
  case round =>
    obtain ⟨j, T, hj, rfl, rfl, HT, hB⟩ := hrel
    by_cases hlt : j < f.len
    · obtain ⟨b, o, c', t, d, k, hve, hcap, hS, hdr, htk, ht64, hc0, ⟨dv, hc1, hdv⟩, ⟨kv, hc2, hkv⟩⟩ := hv.at hlt
      injection hve with e1 e2 e3
      subst e1 e3
      have hSb : b < w.heap.size := hS
      have hdv' : dv = .string (txt d) := hdv
      subst hdv'
      have hdrop : (Fo.drop j f).sz ≤ f.sz := by
        have h := Fo.sz_app (Fo.take j f) (Fo.drop j f)
        rw [Fo.take_app_drop] at h
        omega
      rw [hdr] at hdrop
      simp only [Fo.sz] at hdrop
      have hIH : ∀ (w : World) (v : Value), FV DataR w (Lo w) v k → k.sz ≤ 1099511627776 → Calls Try.prog 16 #[v] w (AllPost k w) := by
        have h := Fo.kidsAll_drop j HK.out
        rw [hdr] at h
        exact h.1
      have hks40 : k.sz ≤ 1099511627776 := by omega
      have hkv2 : FV DataR wr (Lo wr) kv k := hkv.kept stays_R (fun g hg => hB.block g hg) (fun _ hg => Nat.lt_of_lt_of_le hg hB.size)
      have HI := Lib.hid (hIH wr kv hkv2 hks40)
      obtain ⟨P, hP⟩ : ∃ P, P = encV 9 t := ⟨_, rfl⟩
      obtain ⟨I, hI⟩ : ∃ I, I = Fo.inn t d k.all := ⟨_, rfl⟩
      obtain ⟨L, hL⟩ : ∃ L, L = encV 9 I.length := ⟨_, rfl⟩
      obtain ⟨PL, hPL⟩ : ∃ PL, PL = P ++ L := ⟨_, rfl⟩
      obtain ⟨PLI, hPLI⟩ : ∃ PLI, PLI = PL ++ I := ⟨_, rfl⟩
      obtain ⟨T', hT'⟩ : ∃ T', T' = T ++ PLI := ⟨_, rfl⟩
      have hTn : T' = (Fo.take (j + 1) f).all := by rw [Fo.all_take j htk, hT', hPLI, hPL, hL, hP, hI, HT.out]
      have hTl : T'.length ≤ f.all.length := by rw [hTn]; exact Fo.all_take_le _ _
      have l1 : T'.length = T.length + PLI.length := by rw [hT', List.length_append]
      have l2 : PLI.length = PL.length + I.length := by rw [hPLI, List.length_append]
      have l3 : PL.length = P.length + L.length := by rw [hPL, List.length_append]
      have x1 : txt P ++ txt L = txt PL := by rw [hPL]; exact txt_append P L
      have x2 : txt PL ++ txt I = txt PLI := by rw [hPLI]; exact txt_append PL I
      have x3 : txt T ++ txt PLI = txt T' := by rw [hT']; exact txt_append T PLI
      have s1 := txt_size P
      have s2 := txt_size L
      have s3 := txt_size PL
      have s4 := txt_size I
      have s5 := txt_size PLI
      have s6 := txt_size T
      have c1 : ¬ 9223372036854775807 < P.length + L.length := by omega
      have c2 : ¬ 9223372036854775807 < PL.length + I.length := by omega
      have c3 : ¬ 9223372036854775807 < T.length + PLI.length := by omega
      have hI64 : I.length < 18446744073709551616 := by omega
      have hI63 : I.length ≤ 22000000000000 := by omega
      have HTN := Lib.hid hTn
      have HP := Lib.hid hP
      have HL := Lib.hid hL
      have HT64 := Lib.hid ht64
      have HI64 := Lib.hid hI64
      have i1 : (0 : Int) ≤ (j : Int) := by omega
      have i2 : (j : Int) < (f.len : Int) := by omega
      have hC0 : wr.cell? ⟨b, o + j * 3, none⟩ = some (.int .u64 (t : Int)) := (hB.cell (p := ⟨b, o + j * 3, none⟩) hSb).trans hc0
      have hC1 : wr.cell? ⟨b, o + j * 3 + 1, none⟩ = some (.string (txt d)) := (hB.cell (p := ⟨b, o + j * 3 + 1, none⟩) hSb).trans hc1
      have hC2 : wr.cell? ⟨b, o + j * 3 + 2, none⟩ = some kv := (hB.cell (p := ⟨b, o + j * 3 + 2, none⟩) hSb).trans hc2
      clear hIH hkv hkv2 hdr htk hc0 hc1 hc2 e2 hS hdrop hsz hTl l1 l2 l3 hP hL hPL hPLI hT' hTn ht64 hI64 hdv
      by_cases hodd : t % 2 = 1
      · have hb : ((t : Int) % 2 == 1) = true := by
          have h : (t : Int) % 2 = 1 := by omega
          rw [h]; rfl
        have hIk : I = k.all := by rw [hI]; unfold Fo.inn; rw [if_pos hodd]
        have HIK := Lib.hid hIk
        clear hodd hI hIk
        go_wp2_with fail
        refine HI.out.mono ?_
        rintro r w6 ⟨rfl, hb6⟩
        rw [← HIK.out]
        have hB6 := hB.trans (hb6.mono hB.size)
        have hC6 : w6.cell? ⟨b, o + j * 3, none⟩ = some (.int .u64 (t : Int)) := (hb6.cell (p := ⟨b, o + j * 3, none⟩) (Nat.lt_of_lt_of_le hSb hB.size)).trans hC0
        clear hb6 hB hC0 hC1 hC2
        go_wp2_with fail
        refine (rput_at t _ P _ HT64.out rfl HP.out).mono ?_
        rintro r w7 ⟨rfl, hb7⟩
        have hB7 := hB6.trans (hb7.mono hB6.size)
        clear hb7 hB6 hC6
        go_wp2_with fail
        refine (rput_at I.length _ L _ HI64.out rfl HL.out).mono ?_
        rintro r w8 ⟨rfl, hb8⟩
        have hB8 := hB7.trans (hb8.mono hB7.size)
        clear hb8 hB7
        go_wp2
        go_roundw
        case rel => exact ⟨j + 1, T', by omega, by go_num, rfl, HTN, hB8⟩
        case measure => simp [intOf]; omega
      · have hb : ((t : Int) % 2 == 1) = false := by
          have h : (t : Int) % 2 = 0 := by omega
          rw [h]; rfl
        have hId : I = d := by rw [hI]; unfold Fo.inn; rw [if_neg hodd]
        subst hId
        clear hodd hI
        go_wp2_with fail
        refine (rput_at t _ P _ HT64.out rfl HP.out).mono ?_
        rintro r w7 ⟨rfl, hb7⟩
        have hB7 := hB.trans (hb7.mono hB.size)
        clear hb7 hB hC0 hC1 hC2
        go_wp2_with fail
        refine (rput_at I.length _ L _ HI64.out rfl HL.out).mono ?_
        rintro r w8 ⟨rfl, hb8⟩
        have hB8 := hB7.trans (hb8.mono hB7.size)
        clear hb8 hB7
        go_wp2
        go_roundw
        case rel => exact ⟨j + 1, T', by omega, by go_num, rfl, HTN, hB8⟩
        case measure => simp [intOf]; omega
    · obtain rfl : j = f.len := by omega
      have hTe : T = f.all := by rw [HT.out, Fo.take_all]
      subst hTe
      clear hlt
      go_wp2
      go_ret
      exact ⟨rfl, hB⟩

end Go.Proofs.Ytdpaijechogmlaa

/-
  What the document's right, Check and Put answer for items (package tollbarref03). No condition but those of each theorem.
-/
import Derived.Test.YtdpaijechogmlaaTlvAll
namespace Go.Proofs.Ytdpaijechogmlaa
open Go.RowKit
set_option linter.unusedSimpArgs false

def RightPost (f : Fo) (deep : Nat) (w : World) (r : Ending) (w' : World) : Prop := r = .returned (.bool (Fo.right deep f)) ∧ Below w.heap.size w w'

theorem Fo.right_at (deep j : Nat) {f : Fo} {t : Nat} {d : List UInt8} {k : Fo} (h : Fo.drop j f = .cons t d k (Fo.drop (j + 1) f)) :
    Fo.right deep f = (Fo.right deep (Fo.take j f) && (decide (deep ≤ 6) && (if t % 2 = 1 then d.isEmpty else k.len == 0) && Fo.right (deep + 1) k && Fo.right deep (Fo.drop (j + 1) f))) := by
  conv => lhs; rw [← Fo.take_app_drop j f, Fo.right_app, h]
  rfl
theorem Fo.right_take (deep j : Nat) {f : Fo} {t : Nat} {d : List UInt8} {k : Fo} (h : Fo.take (j + 1) f = (Fo.take j f).app (.cons t d k .nil)) :
    Fo.right deep (Fo.take (j + 1) f) = (Fo.right deep (Fo.take j f) && (decide (deep ≤ 6) && (if t % 2 = 1 then d.isEmpty else k.len == 0) && Fo.right (deep + 1) k)) := by
  rw [h, Fo.right_app]
  simp only [Fo.right, Bool.and_true]

set_option maxRecDepth 100000 in
set_option maxHeartbeats 4000000 in
theorem right_any (f : Fo) : ∀ (w : World) (v : Value) (deep : Nat) (dI : Int), FV DataR w (Lo w) v f → f.sz ≤ 1099511627776 → deep ≤ 7 → dI = (deep : Int) → Calls Try.prog 25 #[v, .int .i64 dI] w (RightPost f deep w) := by
  refine Fo.byKids (P := fun f => ∀ (w : World) (v : Value) (deep : Nat) (dI : Int), FV DataR w (Lo w) v f → f.sz ≤ 1099511627776 → deep ≤ 7 → dI = (deep : Int) → Calls Try.prog 25 #[v, .int .i64 dI] w (RightPost f deep w)) ?_ f
  clear f
  intro f hkids w v deep dI hv hsz hd7 hdI
  subst hdI
  obtain ⟨A, c, rfl⟩ := hv.shape
  have hws := f.wt_le_sz
  have hlw := f.len_le_wt
  have hlen40 : f.len ≤ 1099511627776 := by omega
  have HK : Hid (Fo.kidsAll (fun f => ∀ (w : World) (v : Value) (deep : Nat) (dI : Int), FV DataR w (Lo w) v f → f.sz ≤ 1099511627776 → deep ≤ 7 → dI = (deep : Int) → Calls Try.prog 25 #[v, .int .i64 dI] w (RightPost f deep w)) f) := Lib.hid hkids
  clear hkids hws hlw
  by_cases hdl : 6 < deep ∧ 0 < f.len
  · obtain ⟨h6, h0⟩ := hdl
    have hd6 : decide ((6 : Int) < (deep : Int)) = true := decide_eq_true (by omega)
    have hd0 : decide (0 < f.len) = true := decide_eq_true (by omega)
    have HR : Hid (Fo.right deep f = false) := Lib.hid (by
      cases f with
      | nil => simp [Fo.len] at h0
      | cons t d k r => simp only [Fo.right]; rw [decide_eq_false (by omega)]; simp)
    clear h6 h0
    go_enter Try.func25, Try.ntmps25
    go_wp2
    go_ret
    exact ⟨by rw [HR.out]; rfl, Below.refl _ _⟩
  · have hgo : decide ((6 : Int) < (deep : Int)) = false ∨ (decide ((6 : Int) < (deep : Int)) = true ∧ decide (0 < f.len) = false) := by
      by_cases h6 : 6 < deep
      · exact .inr ⟨decide_eq_true (by omega), decide_eq_false (by omega)⟩
      · exact .inl (decide_eq_false (by omega))
    have HDL : Hid (0 < f.len → deep ≤ 6) := Lib.hid (by omega)
    have main : Calls Try.prog 25 #[.slice A f.len c, .int .i64 (deep : Int)] w (RightPost f deep w) := by
      rcases hgo with h6 | ⟨h6, h0⟩
      all_goals
        go_enter Try.func25, Try.ntmps25
        go_wp2
        go_loopw [5] (fun i wr => ∃ (j : Nat), j ≤ f.len ∧ i = .int .i64 (j : Int) ∧ Hid (Fo.right deep (Fo.take j f) = true) ∧ Below w.heap.size w wr) (fun i _ => f.len - (intOf i).toNat)
        case atStart => exact ⟨0, Nat.zero_le _, rfl, Lib.hid rfl, Below.refl _ _⟩
        case round =>
          obtain ⟨j, hj, rfl, HR, hB⟩ := hrel
          by_cases hlt : j < f.len
          · obtain ⟨b, o, c', t, d, k, hve, hcap, hS, hdr, htk, ht64, hc0, ⟨dv, hc1, hdv⟩, ⟨kv, hc2, hkv⟩⟩ := hv.at hlt
            injection hve with e1 e2 e3
            subst e1 e3
            have hSb : b < w.heap.size := hS
            have hdv' : dv = .string (txt d) := hdv
            subst hdv'
            have hdrop : (Fo.drop j f).sz ≤ f.sz := by
              have h := Fo.sz_app (Fo.take j f) (Fo.drop j f)
              rw [Fo.take_app_drop] at h
              omega
            rw [hdr] at hdrop
            simp only [Fo.sz] at hdrop
            have hIH := Fo.kidsAll_drop j HK.out
            rw [hdr] at hIH
            have hks40 : k.sz ≤ 1099511627776 := by omega
            have hkv2 : FV DataR wr (Lo wr) kv k := hkv.kept stays_R (fun g hg => hB.block g hg) (fun _ hg => Nat.lt_of_lt_of_le hg hB.size)
            have hdp6 : deep ≤ 6 := HDL.out (by omega)
            have HI := Lib.hid (hIH.1 wr kv (deep + 1) ((deep : Int) + 1) hkv2 hks40 (by omega) (by omega))
            have HF : Hid (∀ s, (if t % 2 = 1 then d.isEmpty else k.len == 0) = s → s = false → Fo.right deep f = false) := Lib.hid (fun s h1 h2 => by
              rw [Fo.right_at deep j hdr, h1, h2]; simp)
            have HF2 : Hid (Fo.right (deep + 1) k = false → Fo.right deep f = false) := Lib.hid (fun h1 => by
              rw [Fo.right_at deep j hdr, h1]; simp)
            have HN : Hid ((if t % 2 = 1 then d.isEmpty else k.len == 0) = true → Fo.right (deep + 1) k = true → Fo.right deep (Fo.take (j + 1) f) = true) := Lib.hid (fun h1 h2 => by
              rw [Fo.right_take deep j htk, h1, h2, HR.out, decide_eq_true hdp6]; rfl)
            have i1 : (0 : Int) ≤ (j : Int) := by omega
            have i2 : (j : Int) < (f.len : Int) := by omega
            have hC0 : wr.cell? ⟨b, o + j * 3, none⟩ = some (.int .u64 (t : Int)) := (hB.cell (p := ⟨b, o + j * 3, none⟩) hSb).trans hc0
            have hC1 : wr.cell? ⟨b, o + j * 3 + 1, none⟩ = some (.string (txt d)) := (hB.cell (p := ⟨b, o + j * 3 + 1, none⟩) hSb).trans hc1
            have hC2 : wr.cell? ⟨b, o + j * 3 + 2, none⟩ = some kv := (hB.cell (p := ⟨b, o + j * 3 + 2, none⟩) hSb).trans hc2
            obtain ⟨A2, c2, rfl⟩ := hkv.shape
            clear hIH hkv hkv2 hdr htk hc0 hc1 hc2 e2 hS hdrop hsz hdv ht64
            by_cases hodd : t % 2 = 1
            · have hb : ((t : Int) % 2 == 1) = true := by
                have h : (t : Int) % 2 = 1 := by omega
                rw [h]; rfl
              rw [if_pos hodd] at HN
              have HF' := HF.out
              rw [if_pos hodd] at HF'
              have HFF := Lib.hid HF'
              clear HF' HF hodd
              by_cases hd0 : d = []
              · subst hd0
                have hnb := txt_none
                clear hd7
                go_wp2_with fail
                refine HI.out.mono ?_
                rintro r w6 ⟨rfl, hb6⟩
                have hB6 := hB.trans (hb6.mono hB.size)
                clear hb6 hB hC0 hC1 hC2
                cases hrk : Fo.right (deep + 1) k with
                | false =>
                  have HZ := Lib.hid (HF2.out hrk)
                  clear hrk
                  go_wp2
                  go_ret
                  exact ⟨by rw [HZ.out]; rfl, hB6⟩
                | true =>
                  have HZ := Lib.hid (HN.out rfl hrk)
                  clear hrk
                  go_wp2
                  go_roundw
                  case rel => exact ⟨j + 1, by omega, by go_num, HZ, hB6⟩
                  case measure => simp [intOf]; omega
              · have hnb := txt_some (l := d) (List.length_pos_iff.2 hd0)
                have HZ := Lib.hid (HFF.out _ rfl (by simpa using hd0))
                clear hd0
                go_wp2
                go_ret
                exact ⟨by rw [HZ.out]; rfl, hB⟩
            · have hb : ((t : Int) % 2 == 1) = false := by
                have h : (t : Int) % 2 = 0 := by omega
                rw [h]; rfl
              rw [if_neg hodd] at HN
              have HF' := HF.out
              rw [if_neg hodd] at HF'
              have HFF := Lib.hid HF'
              clear HF' HF hodd
              by_cases hk0 : 0 < k.len
              · have hkb : decide (0 < k.len) = true := decide_eq_true (by omega)
                have HZ := Lib.hid (HFF.out _ rfl (by simp; omega))
                clear hk0
                go_wp2
                go_ret
                exact ⟨by rw [HZ.out]; rfl, hB⟩
              · have hkb : decide (0 < k.len) = false := decide_eq_false (by omega)
                have HK0 : Hid ((k.len == 0) = true) := Lib.hid (by simp; omega)
                clear hk0 hd7
                go_wp2_with fail
                refine HI.out.mono ?_
                rintro r w6 ⟨rfl, hb6⟩
                have hB6 := hB.trans (hb6.mono hB.size)
                clear hb6 hB hC0 hC1 hC2
                cases hrk : Fo.right (deep + 1) k with
                | false =>
                  have HZ := Lib.hid (HF2.out hrk)
                  clear hrk
                  go_wp2
                  go_ret
                  exact ⟨by rw [HZ.out]; rfl, hB6⟩
                | true =>
                  have HZ := Lib.hid (HN.out HK0.out hrk)
                  clear hrk
                  go_wp2
                  go_roundw
                  case rel => exact ⟨j + 1, by omega, by go_num, HZ, hB6⟩
                  case measure => simp [intOf]; omega
          · obtain rfl : j = f.len := by omega
            have hRe := HR.out
            rw [Fo.take_all] at hRe
            have HRE := Lib.hid hRe
            clear hRe hlt
            go_wp2
            go_ret
            exact ⟨by rw [HRE.out]; rfl, hB⟩
    exact main

end Go.Proofs.Ytdpaijechogmlaa

/-
  What package tlv's Put answers; and its head. No condition but those of each theorem.
-/
import Derived.Test.YtdpaijechogmlaaTlvFnE
import Derived.Test.YtdpaijechogmlaaVarD
namespace Go.Proofs.Ytdpaijechogmlaa
open Go.RowKit
set_option linter.unusedSimpArgs false

set_option maxHeartbeats 2000000 in
theorem putC : PutC := by
  intro f w v hv hsz
  have hmf : ∀ (fn : Fn) (first cap : Array Value) (w : World), (Instr.makeFunc fn first cap).run Try.prog w = .ok (.func fn first cap) w := fun _ _ _ _ => rfl
  have HC := Lib.hid (checkC f w v hv hsz)
  obtain ⟨A, c, rfl⟩ := hv.shape
  cases hok : f.ok with
  | false =>
    rw [hok] at HC
    have HP : Hid (∀ w', Below w.heap.size w w' → PutP f w (.returned (.tuple #[.slice none 0 0, .int .i64 1])) w') := Lib.hid (fun w' hb => by
      refine ⟨.slice none 0 0, by rw [hok]; rfl, ?_, hb⟩
      rw [hok]; exact Own.nil _ _)
    clear hok
    go_enter Try.func11, Try.ntmps11
    go_wp2_with fail
    refine HC.out.mono ?_
    rintro r w1 ⟨rfl, hb1⟩
    go_wp2
    go_ret2
    exact HP.out _ hb1
  | true =>
    rw [hok] at HC
    have HP : Hid (∀ w' v, Own w' w.heap.size v f.all → Below w.heap.size w w' → PutP f w (.returned (.tuple #[v, .int .i64 0])) w') := Lib.hid (fun w' v ho hb => by
      refine ⟨v, by rw [hok]; rfl, ?_, hb⟩
      rw [hok]; exact ho)
    clear hok
    have hal : f.all.length ≤ 22000000000000 := by have := f.all_le; omega
    go_enter Try.func11, Try.ntmps11
    go_wp2_with fail
    refine HC.out.mono ?_
    rintro r w1 ⟨rfl, hb1⟩
    have b2 : SelfE (w1.alloc (.cells #[.func (.func 20) #[] #[.pointer (some ⟨w1.heap.size, 0, none⟩)]] 50)) w1.heap.size := Blk.new w1 _ _
    have hB := hb1.alloc hb1.size (.cells #[.func (.func 20) #[] #[.pointer (some ⟨w1.heap.size, 0, none⟩)]] 50)
    have hv1 : FV DataI (w1.alloc (.cells #[.func (.func 20) #[] #[.pointer (some ⟨w1.heap.size, 0, none⟩)]] 50)) (Lo (w1.alloc (.cells #[.func (.func 20) #[] #[.pointer (some ⟨w1.heap.size, 0, none⟩)]] 50))) (.slice A f.len c) f := hv.kept stays_I (fun g hg => hB.block g hg) (fun _ hg => Nat.lt_of_lt_of_le hg hB.size)
    have HI := Lib.hid (enc_any f _ _ _ hv1 hsz b2)
    have HB := Lib.hid hB
    clear b2 hB hv1 hb1
    go_wp2_with fail
    refine HI.out.mono ?_
    rintro r w2 ⟨v2, rfl, ho, hb2⟩
    have hB2 := HB.out.trans (hb2.mono HB.out.size)
    obtain ⟨d9, -, -, hr9⟩ := ho.rd (by omega)
    obtain ⟨A9, c9, rfl⟩ : ∃ A c, v2 = .slice A f.all.length c := by obtain ⟨A, c, h, _⟩ := hr9; exact ⟨A, c, h⟩
    have ho2 : Own w2 w.heap.size (.slice A9 f.all.length c9) f.all := by
      refine ⟨ho.1, ?_⟩
      rcases ho.2 with h | ⟨g, cap, cur, h1, h2, h3⟩
      · exact .inl h
      · exact .inr ⟨g, cap, cur, h1, Nat.le_trans HB.out.size h2, h3⟩
    have HO := Lib.hid ho2
    clear ho ho2 hb2 hr9
    go_wp2
    go_ret2
    exact HP.out _ _ HO.out hB2

end Go.Proofs.Ytdpaijechogmlaa

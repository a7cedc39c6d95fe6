/-
  The document's Get.
-/
import Derived.Test.YtonakfkiidhebaaDoorGet
namespace Go.Proofs.YtonakfkiidhebaaDoor
open Go.ChangeShapes Go.WideShapes Go.ChangeAt Go.RowKit
attribute [local go_sem ↓] Go.wp_at_zero Go.wp_at_succ
set_option maxRecDepth 100000 in
set_option maxHeartbeats 1000000 in
theorem rget_any (m : M) (key : ByteArray) (w : World) (hat : m.At w) : Calls Tryd.prog 16 #[m.val, .string key] w (GotIs m.plain key w) := by
  obtain ⟨k, f, n, s, la, lc, l, ka, kc, ks⟩ := m
  have HAT := Lib.hid hat.parts
  clear hat
  dsimp only [M.val, M.plain]
  rw [plainL_eq, plainK_eq]
  generalize l.length = ln at *
  by_cases hk : k = 5
  · subst hk
    have HKL : Hid (ks.length ≤ 1000000) := HAT.out.2.2.2.2.1
    generalize hkn : ks.length = kn at HKL
    have HKN := Lib.hid hkn
    clear hkn
    go_enter Tryd.func16, Tryd.ntmps16
    go_wp2
    have HB1 : Hid (((w.alloc (.cells #[.int .i64 5, .bool f, .int .i64 n, .string s, .slice la ln lc, .slice ka kn kc] 33)).alloc (.cells #[.int .i64 0, .bool false, .int .i64 0, .string ⟨#[]⟩, .slice none 0 0, .slice none 0 0] 33)).heap[w.heap.size]? = some (.cells #[.int .i64 5, .bool f, .int .i64 n, .string s, .slice la ln lc, .slice ka kn kc] 33 (0, 0))) := (boxes_two w _ _).1
    have HB2 : Hid (((w.alloc (.cells #[.int .i64 5, .bool f, .int .i64 n, .string s, .slice la ln lc, .slice ka kn kc] 33)).alloc (.cells #[.int .i64 0, .bool false, .int .i64 0, .string ⟨#[]⟩, .slice none 0 0, .slice none 0 0] 33)).heap[w.heap.size + 1]? = some (.cells #[.int .i64 0, .bool false, .int .i64 0, .string ⟨#[]⟩, .slice none 0 0, .slice none 0 0] 33 (0, 0))) := (boxes_two w _ _).2
    have HWW : Hid (Fresh w ((w.alloc (.cells #[.int .i64 5, .bool f, .int .i64 n, .string s, .slice la ln lc, .slice ka kn kc] 33)).alloc (.cells #[.int .i64 0, .bool false, .int .i64 0, .string ⟨#[]⟩, .slice none 0 0, .slice none 0 0] 33))) := ((Fresh.refl w).alloc _).alloc _
    generalize (w.alloc (.cells #[.int .i64 5, .bool f, .int .i64 n, .string s, .slice la ln lc, .slice ka kn kc] 33)).alloc (.cells #[.int .i64 0, .bool false, .int .i64 0, .string ⟨#[]⟩, .slice none 0 0, .slice none 0 0] 33) = wo at *
    have p5 := cell_of_at HB1.out (i := 5) rfl
    have HLE := HKL.out
    go_loopw [6] (fun a6 wr => ∃ j : Nat, j ≤ kn ∧ a6 = .int .i64 j ∧ Hid ((ks.take j).find? (fun p => decide (p.1 = key)) = none) ∧ wr = wo) (fun a6 _ => kn - (intOf a6).toNat)
    case atStart => exact ⟨0, Nat.zero_le _, rfl, rfl, rfl⟩
    case round =>
      obtain ⟨j, hj, rfl, HA, rfl⟩ := hrel
      obtain ⟨c0, c1, c2, c3, c4, c5⟩ := box6' HB2.out
      obtain ⟨z0, z1, z2, z3, z4, z5⟩ : wr.frozen? ⟨w.heap.size + 1, 0, none⟩ = false ∧ wr.frozen? ⟨w.heap.size + 1, 1, none⟩ = false ∧ wr.frozen? ⟨w.heap.size + 1, 2, none⟩ = false ∧ wr.frozen? ⟨w.heap.size + 1, 3, none⟩ = false ∧ wr.frozen? ⟨w.heap.size + 1, 4, none⟩ = false ∧ wr.frozen? ⟨w.heap.size + 1, 5, none⟩ = false := by simp [World.frozen?, HB2.out]
      by_cases hlq : j < kn
      · have hlt : j < ks.length := by rw [HKN.out]; exact hlq
        obtain ⟨g, eg⟩ := prow_some HAT.out.2.2.1 j hlt
        subst eg
        have hy := prow_get (HAT.out.2.2.1.move HWW.out) j hlt
        have HB : Hid (ks[j].1 = key → ks.find? (fun p => decide (p.1 = key)) = some ks[j]) := find_at hlt HA.out
        have HC : Hid (¬ ks[j].1 = key → (ks.take (j + 1)).find? (fun p => decide (p.1 = key)) = none) := find_on hlt HA.out
        have HYA : Hid (ks[j].2.At w) := HAT.out.2.2.2.2.2.2.2 _ (List.getElem_mem _)
        have i1 : (j : Int) < (kn : Int) := by omega
        have i3 : (0 : Int) ≤ (j : Int) := by omega
        generalize ks[j] = p at *
        obtain ⟨s', y⟩ := p
        obtain ⟨yk, yf, yn, ys, yla, ylc, yl, yka, ykc, yks⟩ := y
        dsimp only at hy HB HC HYA
        obtain ⟨dk, d0, d1, d2, d3, d4, d5⟩ := hy
        have HYV : Hid ((M.mk yk yf yn ys yla ylc yl yka ykc yks).val = .agg #[.int .i64 yk, .bool yf, .int .i64 yn, .string ys, .slice yla yl.length ylc, .slice yka yks.length ykc]) := rfl
        generalize yl.length = yln at *
        generalize yks.length = ykn at *
        by_cases hs : s' = key
        · have HE : Hid (ks.find? (fun p => decide (p.1 = key)) = some (s', M.mk yk yf yn ys yla ylc yl yka ykc yks)) := HB.out hs
          have hs2 : (s'.toList == key.toList) = true := by rw [toList_beq, decide_eq_true hs]
          clear hs
          go_wp2
          refine bodyPost_ret (v := .tuple #[.agg #[.int .i64 yk, .bool yf, .int .i64 yn, .string ys, .slice yla yln ylc, .slice yka ykn ykc], .bool true]) (by simp [results, Tryd.results16, go_sem, *]) rfl ⟨⟨M.mk yk yf yn ys yla ylc yl yka ykc yks, true, by rw [HYV.out], ?_, (gets_some HE.out).symm⟩, ?_⟩
          · refine HYA.out.move ?_
            exact Fresh.setCells (by omega) [.int .i64 yk, .bool yf, .int .i64 yn, .string ys, .slice yla yln ylc, .slice yka ykn ykc] 0 HWW.out
          · exact Fresh.setCells (by omega) [.int .i64 yk, .bool yf, .int .i64 yn, .string ys, .slice yla yln ylc, .slice yka ykn ykc] 0 HWW.out
        · have HE := HC.out hs
          have HE2 := Lib.hid HE
          have hs2 : (s'.toList == key.toList) = false := by rw [toList_beq, decide_eq_false hs]
          clear HE hs c0 c1 c2 c3 c4 c5 z0 z1 z2 z3 z4 z5
          go_wp2
          go_roundw
          case rel => exact ⟨j + 1, by omega, by go_num, HE2.out, by trivial⟩
          case measure => simp [intOf]; omega
      · obtain rfl : j = kn := by omega
        have HE : Hid (ks.find? (fun p => decide (p.1 = key)) = none) := by
          have := HA.out
          rw [List.take_of_length_le (by rw [HKN.out]; exact Nat.le_refl _)] at this
          exact this
        go_wp2
        refine bodyPost_ret (v := .tuple #[M0.val, .bool false]) (by simp [results, Tryd.results16, go_sem, M0, M.val, *]) rfl ⟨⟨M0, false, rfl, m0_at _, by rw [m0_plain]; exact (gets_none HE.out).symm⟩, ?_⟩
        exact Fresh.setCells (by omega) [.int .i64 0, .bool false, .int .i64 0, .string ⟨#[]⟩, .slice none 0 0, .slice none 0 0] 0 HWW.out
  · have e5 : (k == 5) = false := by simpa using hk
    have HK := Lib.hid hk
    clear hk
    generalize ks.length = kn at *
    go_enter Tryd.func16, Tryd.ntmps16
    go_wp2
    refine bodyPost_ret (v := .tuple #[M0.val, .bool false]) (by simp [results, Tryd.results16, go_sem, M0, M.val, *]) rfl ⟨⟨M0, false, rfl, m0_at _, by rw [m0_plain]; exact (gets_no HK.out).symm⟩, ?_⟩
    exact ((Fresh.refl w).alloc _).alloc _
end Go.Proofs.YtonakfkiidhebaaDoor

/-
  The statements' own Of: a value as the document has it.
-/
import Derived.Test.YtonakfkiidhebaaDoorOfK
namespace Go.Proofs.YtonakfkiidhebaaDoor
open Go.ChangeShapes Go.WideShapes Go.ChangeAt Go.RowKit
attribute [local go_sem ↓] Go.wp_at_zero Go.wp_at_succ
theorem M.Off.wide {B : Nat} {g : Option Nat} {w : World} {m : M} (h : m.Off B g w) : m.Off B none w := h.cells fun gg j x e => by
  obtain ⟨h1, h2⟩ := wo_cell e
  rw [decide_eq_false_iff_not] at h1
  refine wo_up ?_ h2
  rw [decide_eq_false_iff_not]
  rintro (e2 | e2)
  · exact h1 (.inl e2)
  · cases e2
theorem row_off {B : Nat} {w : World} {a : Option Addr} {cs : List Value} (h : RowAt w a cs) (hN : ∀ ad, a = some ad → B + 1 ≤ ad.block) : RowAt (Wo (fun k => decide (k ≤ B ∨ some k = (none : Option Nat))) w) a cs := by
  rcases h with h | ⟨g, e, h⟩
  · exact .inl h
  · refine .inr ⟨g, e, fun j x hj => wo_up ?_ (h j x hj)⟩
    have := hN _ e
    rw [decide_eq_false_iff_not]
    rintro (e2 | e2)
    · dsimp only at this; omega
    · cases e2
theorem row_keep {N : Nat} {w w' : World} {a : Option Addr} {cs : List Value} (h : RowAt (Wo (fun k => decide (k < N)) w) a cs) (hc : ∀ g j x, (Wo (fun k => decide (k < N)) w).cell? ⟨g, j, none⟩ = some x → w'.cell? ⟨g, j, none⟩ = some x) : RowAt w' a cs := by
  rcases h with h | ⟨g, e, h⟩
  · exact .inl h
  · exact .inr ⟨g, e, fun j x hj => hc _ _ _ (h j x hj)⟩
theorem of_maps {ps : List (ByteArray × M)} {qs : List (ByteArray × M)} (h : ps.map (fun p => (p.1, p.2.plain)) = qs.map fun p => (p.1, p.2.plain)) (hq : ∀ p ∈ qs, p.1.size ≤ 1000000) : ∀ p ∈ ps, p.1.size ≤ 1000000 := by
  intro p hp
  have h1 : (p.1, p.2.plain) ∈ ps.map fun p => (p.1, p.2.plain) := List.mem_map.2 ⟨p, hp, rfl⟩
  rw [h] at h1
  obtain ⟨q, hq1, hq2⟩ := List.mem_map.1 h1
  have := hq q hq1
  have e : q.1 = p.1 := by
    simp only [Prod.mk.injEq] at hq2
    exact hq2.1
  rw [← e]; exact this
theorem size33 : (Tryd.prog.info? 33).map (·.size) = some 6 := by kernel_rfl
set_option maxRecDepth 100000 in
set_option maxHeartbeats 4000000 in
theorem of_step (m : M) (w : World) (hat : m.At w) (ih : ∀ x, (x ∈ m.list ∨ ∃ key, (key, x) ∈ m.keys) → OfSays x) :
    Calls Tryd.prog 17 #[m.val] w fun e w' => (∃ z : M, e = .returned z.val ∧ z.New w.heap.size w' ∧ z.plain = m.plain) ∧ Fresh w w' := by
  obtain ⟨k, f, n, s, la, lc, l, ka, kc, ks⟩ := m
  have HAT := Lib.hid hat.parts
  have HIH : Hid (∀ x, (x ∈ l ∨ ∃ key, (key, x) ∈ ks) → OfSays x) := ih
  clear hat ih
  dsimp only [M.val, M.plain]
  rw [plainL_eq, plainK_eq]
  have HLN : Hid (l.length ≤ 1000000 ∧ ks.length ≤ 1000000) := ⟨HAT.out.2.2.2.1, HAT.out.2.2.2.2.1⟩
  generalize hln : l.length = ln at *
  generalize hkn : ks.length = kn at *
  have HLK : Hid (l.length = ln ∧ ks.length = kn) := ⟨hln, hkn⟩
  clear hln hkn
  go_enter Tryd.func17, Tryd.ntmps17
  go_wp2
  have HB1 : Hid (((w.alloc (.cells #[.int .i64 k, .bool f, .int .i64 n, .string s, .slice la ln lc, .slice ka kn kc] 29)).alloc (.cells #[.int .i64 0, .bool false, .int .i64 0, .string ⟨#[]⟩, .slice none 0 0, .slice none 0 0] 33)).heap[w.heap.size]? = some (.cells #[.int .i64 k, .bool f, .int .i64 n, .string s, .slice la ln lc, .slice ka kn kc] 29 (0, 0))) := at_alloc (at_new w _)
  have HB2 : Hid (((w.alloc (.cells #[.int .i64 k, .bool f, .int .i64 n, .string s, .slice la ln lc, .slice ka kn kc] 29)).alloc (.cells #[.int .i64 0, .bool false, .int .i64 0, .string ⟨#[]⟩, .slice none 0 0, .slice none 0 0] 33)).heap[w.heap.size + 1]? = some (.cells #[.int .i64 0, .bool false, .int .i64 0, .string ⟨#[]⟩, .slice none 0 0, .slice none 0 0] 33 (0, 0))) := by
    have := at_new (w.alloc (.cells #[.int .i64 k, .bool f, .int .i64 n, .string s, .slice la ln lc, .slice ka kn kc] 29)) (.cells #[.int .i64 0, .bool false, .int .i64 0, .string ⟨#[]⟩, .slice none 0 0, .slice none 0 0] 33)
    rw [World.size_alloc] at this; exact this
  have HWW : Hid (Fresh w ((w.alloc (.cells #[.int .i64 k, .bool f, .int .i64 n, .string s, .slice la ln lc, .slice ka kn kc] 29)).alloc (.cells #[.int .i64 0, .bool false, .int .i64 0, .string ⟨#[]⟩, .slice none 0 0, .slice none 0 0] 33))) := ((Fresh.refl w).alloc _).alloc _
  have HSZ : Hid (((w.alloc (.cells #[.int .i64 k, .bool f, .int .i64 n, .string s, .slice la ln lc, .slice ka kn kc] 29)).alloc (.cells #[.int .i64 0, .bool false, .int .i64 0, .string ⟨#[]⟩, .slice none 0 0, .slice none 0 0] 33)).heap.size = w.heap.size + 1 + 1) := by
    rw [Hid, World.size_alloc, World.size_alloc]
  have HLS : Hid (LxIs ((w.alloc (.cells #[.int .i64 k, .bool f, .int .i64 n, .string s, .slice la ln lc, .slice ka kn kc] 29)).alloc (.cells #[.int .i64 0, .bool false, .int .i64 0, .string ⟨#[]⟩, .slice none 0 0, .slice none 0 0] 33)) (((w.alloc (.cells #[.int .i64 k, .bool f, .int .i64 n, .string s, .slice la ln lc, .slice ka kn kc] 29)).alloc (.cells #[.int .i64 0, .bool false, .int .i64 0, .string ⟨#[]⟩, .slice none 0 0, .slice none 0 0] 33)).alloc (.cells #[.int .i64 k, .bool f, .int .i64 n, .string s, .slice none 0 0, .slice none 0 0] 33)) (w.heap.size + 1 + 1) (w.heap.size + 1 + 1 + 1) k f n s 0 none 0 []) := by
    refine ⟨by omega, ?_, World.ownsRow_nil _ _ _ _, (fun x hx => by cases hx), ?_, ?_, (Fresh.refl _).alloc _⟩
    · have := at_new ((w.alloc (.cells #[.int .i64 k, .bool f, .int .i64 n, .string s, .slice la ln lc, .slice ka kn kc] 29)).alloc (.cells #[.int .i64 0, .bool false, .int .i64 0, .string ⟨#[]⟩, .slice none 0 0, .slice none 0 0] 33)) (.cells #[.int .i64 k, .bool f, .int .i64 n, .string s, .slice none 0 0, .slice none 0 0] 33)
      rw [HSZ.out] at this; exact this
    · rw [World.size_alloc, HSZ.out]; exact Nat.le_refl _
    · rw [HSZ.out]; exact Nat.le_refl _
  generalize ((w.alloc (.cells #[.int .i64 k, .bool f, .int .i64 n, .string s, .slice la ln lc, .slice ka kn kc] 29)).alloc (.cells #[.int .i64 0, .bool false, .int .i64 0, .string ⟨#[]⟩, .slice none 0 0, .slice none 0 0] 33)).alloc (.cells #[.int .i64 k, .bool f, .int .i64 n, .string s, .slice none 0 0, .slice none 0 0] 33) = wb at *
  generalize ((w.alloc (.cells #[.int .i64 k, .bool f, .int .i64 n, .string s, .slice la ln lc, .slice ka kn kc] 29)).alloc (.cells #[.int .i64 0, .bool false, .int .i64 0, .string ⟨#[]⟩, .slice none 0 0, .slice none 0 0] 33)) = wo at *
  generalize hN0 : w.heap.size = N0 at *
  have HN0 := Lib.hid hN0
  clear hN0
  have HI1 := HLN.out.1
  have HI2 := HLN.out.2
  go_loopw [20] (fun a20 wq => ∃ (j : Nat) (ra : Option Addr) (rc : Nat) (xs : List M), j ≤ ln ∧ a20 = .int .i64 j ∧ Hid (xs.map M.plain = (l.take j).map M.plain) ∧ Hid (LxIs wo wq (N0 + 1 + 1) (N0 + 1 + 1 + 1) k f n s j ra rc xs)) (fun a20 _ => ln - (intOf a20).toNat)
  case atStart => exact ⟨0, none, 0, [], Nat.zero_le _, rfl, rfl, HLS.out⟩
  case round =>
    obtain ⟨j, ra, rc, xs, hj, rfl, HX, HL⟩ := hrel
    clear HLS
    by_cases hlq : j < ln
    · have hlj : j < l.length := by rw [HLK.out.1]; exact hlq
      have hrow := HAT.out.2.1.move (HWW.out.trans HL.out.fresh)
      obtain ⟨ga, ea⟩ := row_some hrow j hlj
      subst ea
      have hy := mrow_get hrow j hlj
      have HTX : Hid (l.take (j + 1) = l.take j ++ [l[j]]) := by rw [Hid, List.take_succ_eq_append_getElem hlj]
      have HYI : Hid (OfSays l[j]) := HIH.out _ (.inl (List.getElem_mem _))
      have HYA : Hid (l[j].At w) := HAT.out.2.2.2.2.2.2.1 _ (List.getElem_mem _)
      have i1 : (0 : Int) ≤ (j : Int) := by omega
      have i2 : (j : Int) < ((ln : Nat) : Int) := by omega
      clear hrow
      generalize l[j] = y at *
      obtain ⟨yk, yf, yn, ys, yla, ylc, yl, yka, ykc, yks⟩ := y
      obtain ⟨d0, d1, d2, d3, d4, d5⟩ := hy
      generalize hyln : yl.length = yln at *
      generalize hykn : yks.length = ykn at *
      have HYV : Hid ((M.mk yk yf yn ys yla ylc yl yka ykc yks).val = mval yk yf yn ys yla yln ylc yka ykn ykc) := by rw [Hid, M.val, hyln, hykn]
      clear hyln hykn
      go_upto_block 1 with (fail)
      go_cut [20] (fun a20 wd => a20 = .int .i64 j ∧ ∃ (g cap : Nat) (z : M), Hid (z.plain = (M.mk yk yf yn ys yla ylc yl yka ykc yks).plain) ∧ Hid (LxIs wo wd (N0 + 1 + 1) (N0 + 1 + 1 + 1) k f n s (j + 1) (some ⟨g, 0, none⟩) cap (xs ++ [z])))
      case first =>
        go_wp2_with fail
        refine regionOfL (c := ⟨wo, N0 + 1 + 1, N0 + 1 + 1 + 1, wr.heap.size, k, f, n, s, yk, yf, yn, ys, yla, yln, ylc, yka, ykn, ykc, M.mk yk yf yn ys yla ylc yl yka ykc yks, ra, j, rc, xs⟩) _ rfl rfl rfl ⟨HL.out.move ((Fresh.refl wr).alloc _), at_new wr _⟩ HYV.out (HYA.out.move (HWW.out.trans (HL.out.fresh.trans ((Fresh.refl wr).alloc _)))) HYI.out (by show j ≤ 1000000; omega) (fun _ _ _ _ _ h => h) ?_
        intro z zk zf zn zs zla zlc zl zka zkc zks k1 g cap u' ez hz hLn
        have HZ := Lib.hid hz
        have HLn := Lib.hid hLn
        clear ez hz hLn
        simp only [Lx.loaded, Lx.cs, Act.put, List.setIfInBounds_toArray, List.set_cons_zero, List.set_cons_succ]
        go_wp2
        go_meet
        case rel => exact ⟨rfl, _, _, z, HZ.out, HLn.out⟩
      case rest =>
        obtain ⟨rfl, g, cap, z, HZ, HLn⟩ := hcut
        have HX2 : Hid ((xs ++ [z]).map M.plain = (l.take (j + 1)).map M.plain) := by
          rw [Hid, HTX.out, List.map_append, List.map_append, HX.out, List.map_singleton, List.map_singleton, HZ.out]
        go_wp2
        go_roundw
        case rel => exact ⟨j + 1, _, _, _, by omega, by go_num, HX2.out, HLn.out⟩
        case measure => simp [intOf]; omega
    · obtain rfl : j = ln := by omega
      have HX2 : Hid (xs.map M.plain = l.map M.plain) := by
        have := HX.out
        rw [List.take_of_length_le (by rw [HLK.out.1]; exact Nat.le_refl _)] at this
        exact this
      have p5 : wr.cell? ⟨N0, 5, none⟩ = some (.slice ka kn kc) := cell_of_at (HL.out.fresh.at HB1.out) rfl
      have HXL : Hid (xs.length = j) := by
        have := congrArg List.length HX2.out
        rw [List.length_map, List.length_map, HLK.out.1] at this
        exact this
      have HOS : Hid ((M.mk 4 f n s ra rc xs none 0 []).Off (N0 + 1 + 1) none wr) := by
        refine .mk HAT.out.1 (row_off (RowAt.owns HL.out.rx) (fun ad e => (own_type HL.out.rx ad e).1)) (.inl ⟨rfl, rfl⟩) (by rw [HXL.out]; omega) (by simp) (fun p hp => by cases hp) (fun x hx => (HL.out.ax x hx).wide) (fun p hp => by cases hp)
      have HQS : Hid (QxIs wo wr (N0 + 1 + 1) (N0 + 1 + 1 + 1) k f n s ra j rc 0 none 0 [] [M.mk 4 f n s ra rc xs none 0 []]) :=
        ⟨HL.out.low, HL.out.bx, World.ownsRow_nil _ _ _ _, (fun x hx => by cases hx), (fun x hx => by rw [List.mem_singleton] at hx; subst hx; exact HOS.out), HL.out.le, HL.out.base, HL.out.fresh⟩
      clear HOS HL HX
      go_wp2
      go_loopw [35] (fun a35 wq => ∃ (i : Nat) (pa : Option Addr) (pc : Nat) (ps : List (ByteArray × M)), i ≤ kn ∧ a35 = .int .i64 i ∧ Hid (ps.map (fun p => (p.1, p.2.plain)) = (ks.take i).map fun p => (p.1, p.2.plain)) ∧ Hid (QxIs wo wq (N0 + 1 + 1) (N0 + 1 + 1 + 1) k f n s ra j rc i pa pc ps [M.mk 4 f n s ra rc xs none 0 []])) (fun a35 _ => kn - (intOf a35).toNat)
      case atStart => exact ⟨0, none, 0, [], Nat.zero_le _, rfl, rfl, HQS.out⟩
      case round =>
        obtain ⟨i, pa, pc, ps, hi, rfl, HP, HQ⟩ := hrel
        clear HQS p5
        by_cases hlq : i < kn
        · have hli : i < ks.length := by rw [HLK.out.2]; exact hlq
          have hrow := HAT.out.2.2.1.move (HWW.out.trans HQ.out.fresh)
          obtain ⟨ga, ea⟩ := prow_some hrow i hli
          subst ea
          have hy := prow_get hrow i hli
          have HTX : Hid (ks.take (i + 1) = ks.take i ++ [ks[i]]) := by rw [Hid, List.take_succ_eq_append_getElem hli]
          have HYI : Hid (OfSays ks[i].2) := HIH.out _ (.inr ⟨ks[i].1, List.getElem_mem _⟩)
          have HYA : Hid (ks[i].2.At w) := HAT.out.2.2.2.2.2.2.2 _ (List.getElem_mem _)
          have i1 : (0 : Int) ≤ (i : Int) := by omega
          have i2 : (i : Int) < ((kn : Nat) : Int) := by omega
          clear hrow
          generalize ks[i] = p at *
          obtain ⟨key, y⟩ := p
          obtain ⟨yk, yf, yn, ys, yla, ylc, yl, yka, ykc, yks⟩ := y
          dsimp only at hy HTX HYI HYA
          obtain ⟨dk, d0, d1, d2, d3, d4, d5⟩ := hy
          generalize hyln : yl.length = yln at *
          generalize hykn : yks.length = ykn at *
          have HYV : Hid ((M.mk yk yf yn ys yla ylc yl yka ykc yks).val = mval yk yf yn ys yla yln ylc yka ykn ykc) := by rw [Hid, M.val, hyln, hykn]
          clear hyln hykn
          go_upto_block 3 with (fail)
          go_cut [35] (fun a35 wd => a35 = .int .i64 i ∧ ∃ (g cap : Nat) (z : M), Hid (z.plain = (M.mk yk yf yn ys yla ylc yl yka ykc yks).plain) ∧ Hid (QxIs wo wd (N0 + 1 + 1) (N0 + 1 + 1 + 1) k f n s ra j rc (i + 1) (some ⟨g, 0, none⟩) cap (ps ++ [(key, z)]) [M.mk 4 f n s ra rc xs none 0 []]))
          case first =>
            go_wp2_with fail
            refine regionOfK (c := ⟨wo, N0 + 1 + 1, N0 + 1 + 1 + 1, wr.heap.size, k, f, n, s, ra, j, rc, key, yk, yf, yn, ys, yla, yln, ylc, yka, ykn, ykc, M.mk yk yf yn ys yla ylc yl yka ykc yks, pa, i, pc, ps, [M.mk 4 f n s ra rc xs none 0 []]⟩) _ rfl rfl rfl ⟨HQ.out.move ((Fresh.refl wr).alloc _), at_new wr _⟩ HYV.out (HYA.out.move (HWW.out.trans (HQ.out.fresh.trans ((Fresh.refl wr).alloc _)))) HYI.out (by show i ≤ 1000000; omega) (fun _ _ _ _ _ h => h) ?_
            intro z zk zf zn zs zla zlc zl zka zkc zks k1 g cap u' ez hz hLn
            have HZ := Lib.hid hz
            have HLn := Lib.hid hLn
            clear ez hz hLn
            simp only [Qx.loaded, Qx.cs, Act.put, List.setIfInBounds_toArray, List.set_cons_zero, List.set_cons_succ]
            go_wp2
            go_meet
            case rel => exact ⟨rfl, _, _, z, HZ.out, HLn.out⟩
          case rest =>
            obtain ⟨rfl, g, cap, z, HZ, HLn⟩ := hcut
            have HX3 : Hid ((ps ++ [(key, z)]).map (fun p => (p.1, p.2.plain)) = (ks.take (i + 1)).map fun p => (p.1, p.2.plain)) := by
              rw [Hid, HTX.out, List.map_append, List.map_append, HP.out, List.map_singleton, List.map_singleton, HZ.out]
            go_wp2
            go_roundw
            case rel => exact ⟨i + 1, _, _, _, by omega, by go_num, HX3.out, HLn.out⟩
            case measure => simp [intOf]; omega
        · obtain rfl : i = kn := by omega
          have HP2 : Hid (ps.map (fun p => (p.1, p.2.plain)) = ks.map fun p => (p.1, p.2.plain)) := by
            have := HP.out
            rw [List.take_of_length_le (by rw [HLK.out.2]; exact Nat.le_refl _)] at this
            exact this
          have HPL : Hid (ps.length = i) := by
            have := congrArg List.length HP2.out
            rw [List.length_map, List.length_map, HLK.out.2] at this
            exact this
          have hbx := HQ.out.bx
          obtain ⟨q0, q1, q2, q3, q4, q5⟩ := box6' hbx
          have hb2 := HQ.out.fresh.at HB2.out
          obtain ⟨r0, r1, r2, r3, r4, r5⟩ := box6' hb2
          obtain ⟨z0, z1, z2, z3, z4, z5⟩ : wr.frozen? ⟨N0 + 1, 0, none⟩ = false ∧ wr.frozen? ⟨N0 + 1, 1, none⟩ = false ∧ wr.frozen? ⟨N0 + 1, 2, none⟩ = false ∧ wr.frozen? ⟨N0 + 1, 3, none⟩ = false ∧ wr.frozen? ⟨N0 + 1, 4, none⟩ = false ∧ wr.frozen? ⟨N0 + 1, 5, none⟩ = false := by simp [World.frozen?, hb2]
          clear hbx
          have HBW := Lib.hid hb2
          clear hb2
          go_wp2
          have hfin : ((((((wr.setCell ⟨N0 + 1, 0, none⟩ (.int .i64 k)).setCell ⟨N0 + 1, 1, none⟩ (.bool f)).setCell ⟨N0 + 1, 2, none⟩ (.int .i64 n)).setCell ⟨N0 + 1, 3, none⟩ (.string s)).setCell ⟨N0 + 1, 4, none⟩ (.slice ra j rc)).setCell ⟨N0 + 1, 5, none⟩ (.slice pa i pc)).heap[N0 + 1]? = some (.cells #[.int .i64 k, .bool f, .int .i64 n, .string s, .slice ra j rc, .slice pa i pc] 33 (0, 0)) := by
            simp [World.setCell, Array.getElem?_modify, HBW.out]
          have HNW : (M.mk k f n s ra rc xs pa pc ps).New (N0 + 1 + 1 + 1) wr := by
            obtain ⟨_, n1, _, _, _, _, n2, _⟩ := ((HQ.out.ox _ (List.mem_singleton.2 rfl)).new (N := N0 + 1 + 1 + 1) (Nat.le_refl _)).parts
            exact .mk HAT.out.1 n1 (row_new (RowAt.owns HQ.out.rx) (fun ad e => (own_type HQ.out.rx ad e).1)) (by rw [HXL.out]; omega) (by rw [HPL.out]; omega) (of_maps HP2.out HAT.out.2.2.2.2.2.1) n2 (fun x hx => (HQ.out.ax x hx).new (Nat.le_refl _))
          have HNF : Hid ((M.mk k f n s ra rc xs pa pc ps).New w.heap.size ((((((wr.setCell ⟨N0 + 1, 0, none⟩ (.int .i64 k)).setCell ⟨N0 + 1, 1, none⟩ (.bool f)).setCell ⟨N0 + 1, 2, none⟩ (.int .i64 n)).setCell ⟨N0 + 1, 3, none⟩ (.string s)).setCell ⟨N0 + 1, 4, none⟩ (.slice ra j rc)).setCell ⟨N0 + 1, 5, none⟩ (.slice pa i pc))) := by
            refine M.New.mono (N := N0 + 1 + 1 + 1) ?_ (by have := HN0.out; omega)
            exact ((((((HNW.set (by omega)).set (by omega)).set (by omega)).set (by omega)).set (by omega)).set (by omega))
          have HFR : Hid (Fresh w ((((((wr.setCell ⟨N0 + 1, 0, none⟩ (.int .i64 k)).setCell ⟨N0 + 1, 1, none⟩ (.bool f)).setCell ⟨N0 + 1, 2, none⟩ (.int .i64 n)).setCell ⟨N0 + 1, 3, none⟩ (.string s)).setCell ⟨N0 + 1, 4, none⟩ (.slice ra j rc)).setCell ⟨N0 + 1, 5, none⟩ (.slice pa i pc))) := by
            have h0 : Fresh w wr := HWW.out.trans HQ.out.fresh
            have hb : w.heap.size ≤ N0 + 1 := by have := HN0.out; omega
            exact ((((((h0.setCell hb _).setCell hb _).setCell hb _).setCell hb _).setCell hb _).setCell hb _)
          have HPLN : Hid ((M.mk k f n s ra rc xs pa pc ps).plain = V.mk k f n s (l.map M.plain) (ks.map fun p => (p.1, p.2.plain))) := by
            rw [Hid]; simp only [M.plain, plainL_eq, plainK_eq, HX2.out, HP2.out]
          have HVL : Hid ((M.mk k f n s ra rc xs pa pc ps).val = .agg #[.int .i64 k, .bool f, .int .i64 n, .string s, .slice ra j rc, .slice pa i pc]) := by
            rw [Hid, M.val, HXL.out, HPL.out]
          (try simp only [Exit.inBlock, Exit.then])
          refine bodyPost_ret (results_cell_row (p := 2) (ty := 33) rfl _ _ (N0 + 1) 33 #[.int .i64 k, .bool f, .int .i64 n, .string s, .slice ra j rc, .slice pa i pc] (0, 0) _ rfl hfin Tryd.underlying33 rfl size33) rfl ?_
          refine ⟨⟨M.mk k f n s ra rc xs pa pc ps, ?_, HNF.out, HPLN.out⟩, HFR.out⟩
          exact congrArg Ending.returned HVL.out.symm
theorem size_list {m x : M} (h : x ∈ m.list ∨ ∃ key, (key, x) ∈ m.keys) : x.plain.size < m.plain.size := by
  obtain ⟨k, f, n, s, la, lc, l, ka, kc, ks⟩ := m
  simp only [M.plain, V.size, plainL_eq, plainK_eq]
  rcases h with h | ⟨key, h⟩
  · have : x.plain.size ≤ sizeL (l.map M.plain) := size_mem (List.mem_map_of_mem (f := M.plain) h)
    omega
  · have : x.plain.size ≤ sizeK (ks.map fun p => (p.1, p.2.plain)) := by
      rw [sizeK_eq, List.map_map]
      exact size_mem (List.mem_map.2 ⟨(key, x), h, rfl⟩)
    omega
theorem of_all (N : Nat) : ∀ m : M, m.plain.size ≤ N → OfSays m := by
  induction N with
  | zero => intro m hN; have := m.plain.size_pos; omega
  | succ N ih =>
    intro m hN w hat
    exact of_step m w hat fun x hx => ih x (by have := size_list hx; omega)
theorem ofM_any (m : M) : OfSays m := of_all m.plain.size m (Nat.le_refl _)
end Go.Proofs.YtonakfkiidhebaaDoor

/-
  The statements' own Build: a value of steps, in both packages' types.
-/
import Derived.Test.YtonakfkiidhebaaDoorReg17
import Derived.Test.YtonakfkiidhebaaDoorStack
import Derived.Test.YtonakfkiidhebaaDoorReg23
namespace Go.Proofs.YtonakfkiidhebaaDoor
open Go.ChangeShapes Go.WideShapes Go.ChangeAt Go.RowKit
attribute [local go_sem ↓] Go.wp_at_zero Go.wp_at_succ
variable {w : World}
theorem flat_at {w : World} {k : Int} {f : Bool} {n : Int} {s : ByteArray} (hs : s.size ≤ 40000) : (M.mk k f n s none 0 [] none 0 []).At w :=
  .mk (by omega) (.nil w) (.nil w) (by simp) (by simp) (fun _ h => by cases h) (fun _ h => by cases h) (fun _ h => by cases h)
theorem flat_size (k : Int) (f : Bool) (n : Int) (s : ByteArray) (l : List V) : (M.mk k f n s none 0 [] none 0 []).plain.size ≤ 1 + sizeL l := by
  simp [M.plain, plainL, plainK, V.size, sizeL, sizeK]
abbrev zero6 : Array Value := #[.int .i64 0, .bool false, .int .i64 0, .string ⟨#[]⟩, .slice none 0 0, .slice none 0 0]
set_option maxRecDepth 100000 in
set_option maxHeartbeats 30000000 in
theorem build_any (a : Option Addr) (len cap : Nat) (pt : Nat → Pt) (w : World) (h : PartsAt w a len pt) (hl : len ≤ 80) (ht : ∀ i, i < len → (pt i).text.size ≤ 40000) :
    Calls Tryd.prog 8 #[.slice a len cap] w fun e w' => (∃ X Y : M, e = .returned (.tuple #[X.val, Y.val]) ∧ X.At w' ∧ Y.At w' ∧ X.plain = Y.plain ∧ X.plain.size ≤ 81) ∧ Fresh w w' := by
  have HP := Lib.hid h
  have HT := Lib.hid ht
  clear h ht
  go_enter Tryd.func8, Tryd.ntmps8
  go_wp2
  go_loopw [4, 5, 16] (fun a4 a5 a16 wq => ∃ (n ca cb i : Nat) (aa ab : Option Addr) (ms ns : List M), i ≤ len ∧ a4 = .slice aa n ca ∧ a5 = .slice ab n cb ∧ a16 = .int .i64 i ∧ Hid (Stacks (Er w.heap.size wq) aa ab n i ms ns) ∧ Hid (n ≤ ca ∧ n ≤ cb) ∧ Hid (Fresh ((w.alloc (.cells #[.int .i64 0, .bool false, .int .i64 0, .string ⟨#[]⟩, .slice none 0 0, .slice none 0 0] 29)).alloc (.cells #[.int .i64 0, .bool false, .int .i64 0, .string ⟨#[]⟩, .slice none 0 0, .slice none 0 0] 33)) wq)) (fun _ _ a16 _ => len - (intOf a16).toNat)
  case atStart => exact ⟨0, 0, 0, 0, none, none, [], [], Nat.zero_le _, rfl, rfl, rfl, ⟨rfl, rfl, .nil _, .nil _, (fun _ h => by cases h), (fun _ h => by cases h), rfl, Nat.le_refl _⟩, ⟨Nat.le_refl _, Nat.le_refl _⟩, Fresh.refl _⟩
  case round =>
    obtain ⟨n, ca, cb, i, aa, ab, ms, ns, hi, rfl, rfl, rfl, HS, HC, HW⟩ := hrel
    obtain ⟨wo, rfl⟩ : ∃ wo : World, wo = wr := ⟨_, rfl⟩
    have hni := HS.out.le
    have hRw : w.heap.size + 1 < wo.heap.size := by have := HW.out.size; rw [World.size_alloc, World.size_alloc] at this; omega
    by_cases hlt : i < len
    · obtain ⟨b, off, ea, hp, hsz0⟩ := HP.out i hlt
      have hsz := HT.out i hlt
      subst ea
      have HWW : Hid (Fresh w wo) := (((Fresh.refl w).alloc _).alloc _).trans HW.out
      have hp2 := hp.move HWW.out
      generalize pt i = p at *
      clear hp hsz0
      obtain ⟨k, m, f, nn, s⟩ := p
      obtain ⟨c0, c1, c2, c3, c4⟩ := hp2
      dsimp only at c0 c1 c2 c3 c4 hsz
      by_cases hm0 : 0 < m
      · by_cases hk4 : k = 4
        · subst hk4
          obtain ⟨q, hq⟩ : ∃ q : Nat, min m (n : Int) = q := ⟨(min m (n : Int)).toNat, by omega⟩
          obtain ⟨d, rfl⟩ : ∃ d, n = d + q := ⟨n - q, by omega⟩
          have hq2 : min m ((d : Int) + (q : Int)) = q := by omega
          go_wp2
          have HLS : Hid (Lists wo (((wo.alloc (.cells #[.int .i64 4, .int .i64 m, .bool f, .int .i64 nn, .string s] 60)).alloc (.cells #[.int .i64 4, .bool f, .int .i64 nn, .string s, .slice none 0 0, .slice none 0 0] 29)).alloc (.cells #[.int .i64 4, .bool f, .int .i64 nn, .string s, .slice none 0 0, .slice none 0 0] 33)) wo.heap.size 4 m f nn s 0 none none 0 0 [] []) := by
            refine ⟨rfl, at_alloc (at_alloc (at_new wo _)), at_alloc ?_, ?_, World.ownsRow_nil _ _ _ _, World.ownsRow_nil _ _ _ _, (((Fresh.refl wo).alloc _).alloc _).alloc _⟩
            · have := at_new (wo.alloc (.cells #[.int .i64 4, .int .i64 m, .bool f, .int .i64 nn, .string s] 60)) (.cells #[.int .i64 4, .bool f, .int .i64 nn, .string s, .slice none 0 0, .slice none 0 0] 29)
              rw [World.size_alloc] at this; exact this
            · have := at_new ((wo.alloc (.cells #[.int .i64 4, .int .i64 m, .bool f, .int .i64 nn, .string s] 60)).alloc (.cells #[.int .i64 4, .bool f, .int .i64 nn, .string s, .slice none 0 0, .slice none 0 0] 29)) (.cells #[.int .i64 4, .bool f, .int .i64 nn, .string s, .slice none 0 0, .slice none 0 0] 33)
              rw [World.size_alloc, World.size_alloc] at this; exact this
          generalize ((wo.alloc (.cells #[.int .i64 4, .int .i64 m, .bool f, .int .i64 nn, .string s] 60)).alloc (.cells #[.int .i64 4, .bool f, .int .i64 nn, .string s, .slice none 0 0, .slice none 0 0] 29)).alloc (.cells #[.int .i64 4, .bool f, .int .i64 nn, .string s, .slice none 0 0, .slice none 0 0] 33) = wb at *
          clear c0 c1 c2 c3 c4
          have HQ := Lib.hid hq
          generalize hBB : wo.heap.size = B at *
          clear hq hq2 hBB
          go_loopw [57] (fun a57 wq => ∃ (j : Nat) (la lz : Option Addr) (lc lzc : Nat), j ≤ q ∧ a57 = .int .i64 j ∧ Hid (Lists wo wq B 4 m f nn s j la lz lc lzc ((ms.drop d).take j) ((ns.drop d).take j))) (fun a57 _ => q - (intOf a57).toNat)
          case atStart => exact ⟨0, none, none, 0, 0, Nat.zero_le _, rfl, HLS.out⟩
          case round =>
            obtain ⟨j, la, lz, lc, lzc, hj, rfl, HL⟩ := hrel
            clear HLS
            by_cases hlq : j < q
            · have hST := (HS.out.move (er_fresh HL.out.fresh)).down
              have hmsl : d + j < ms.length := by have := HS.out.la; omega
              have hnsl : d + j < ns.length := by have := HS.out.lb; omega
              obtain ⟨ga, ea⟩ := row_some hST.ra (d + j) hmsl
              obtain ⟨gb, eb⟩ := row_some hST.rb (d + j) hnsl
              subst ea eb
              have hy := mrow_get hST.ra (d + j) hmsl
              have hz := mrow_get hST.rb (d + j) hnsl
              have HTX : Hid ((ms.drop d).take (j + 1) = (ms.drop d).take j ++ [ms[d + j]]) := by
                rw [Hid, List.take_succ_eq_append_getElem (by simp; omega), List.getElem_drop]
              have HTY : Hid ((ns.drop d).take (j + 1) = (ns.drop d).take j ++ [ns[d + j]]) := by
                rw [Hid, List.take_succ_eq_append_getElem (by simp; omega), List.getElem_drop]
              have hga : ga < wr.heap.size := (hST.ra.lt (fun e => by have := congrArg List.length e; rw [mcells_length] at this; simp at this; omega)) _ rfl
              have hgb : gb < wr.heap.size := (hST.rb.lt (fun e => by have := congrArg List.length e; rw [mcells_length] at this; simp at this; omega)) _ rfl
              have i1 : (0 : Int) ≤ (d : Int) + (j : Int) := by omega
              have i2 : (d : Int) + (j : Int) < ((d + q : Nat) : Int) := by omega
              have i3 : ((d : Int) + (j : Int)).toNat = d + j := by omega
              have i4 : (d : Int) + (j : Int) < (d : Int) + (q : Int) := by omega
              have i5 : (j : Int) < (q : Int) := by omega
              have hdq : d + q ≤ 80 := by omega
              have w1 : IntKind.i64.wrap ((d : Int) + (q : Int) - (q : Int)) = d := by rw [Int.add_sub_cancel]; exact IntWalk.i64_in _ (by omega)
              have w2 : IntKind.i64.wrap ((d : Int) + (j : Int)) = (d : Int) + (j : Int) := IntWalk.i64_in _ (by omega)
              have w3 : IntKind.i64.wrap (d : Int) = d := IntWalk.i64_in _ (by omega)
              clear hST
              generalize ms[d + j] = y at *
              generalize ns[d + j] = z at *
              obtain ⟨yk, yf, yn, ys, yla, ylc, yl, yka, ykc, yks⟩ := y
              obtain ⟨zk, zf, zn, zs, zla, zlc, zl, zka, zkc, zks⟩ := z
              obtain ⟨d0, d1, d2, d3, d4, d5⟩ := hy
              obtain ⟨e0, e1, e2, e3, e4, e5⟩ := hz
              generalize hyln : yl.length = yln at *
              generalize hykn : yks.length = ykn at *
              generalize hzln : zl.length = zln at *
              generalize hzkn : zks.length = zkn at *
              have HLL : Hid (yl.length = yln ∧ yks.length = ykn ∧ zl.length = zln ∧ zks.length = zkn) := ⟨hyln, hykn, hzln, hzkn⟩
              clear hyln hykn hzln hzkn
              go_upto_block 3 with (fail)
              go_cut [57] (fun a57 wd => a57 = .int .i64 j ∧ ∃ g' g2 cap' cap2 : Nat, Hid (Lists wo wd B 4 m f nn s (j + 1) (some ⟨g', 0, none⟩) (some ⟨g2, 0, none⟩) cap' cap2 (((ms.drop d).take j) ++ [M.mk yk yf yn ys yla ylc yl yka ykc yks]) (((ns.drop d).take j) ++ [M.mk zk zf zn zs zla zlc zl zka zkc zks])))
              case first =>
                go_upto_region 14 with (fail)
                go_cut [12, 13] (fun a12 a13 wc => ∃ b1 b2 : Nat, a12 = .pointer (some ⟨b1, 0, none⟩) ∧ a13 = .pointer (some ⟨b2, 0, none⟩) ∧ Hid (Pair2 wr wc b1 b2 #[.int .i64 yk, .bool yf, .int .i64 yn, .string ys, .slice yla yln ylc, .slice yka ykn ykc] #[.int .i64 zk, .bool zf, .int .i64 zn, .string zs, .slice zla zln zlc, .slice zka zkn zkc]))
                case first =>
                  go_region_held3 (fun w' => (w'.cell? ⟨ga, (d + j) * 6, none⟩ = some (.int .i64 yk) ∧ w'.cell? ⟨ga, (d + j) * 6 + 1, none⟩ = some (.bool yf) ∧ w'.cell? ⟨ga, (d + j) * 6 + 2, none⟩ = some (.int .i64 yn) ∧ w'.cell? ⟨ga, (d + j) * 6 + 3, none⟩ = some (.string ys) ∧ w'.cell? ⟨ga, (d + j) * 6 + 4, none⟩ = some (.slice yla yln ylc) ∧ w'.cell? ⟨ga, (d + j) * 6 + 5, none⟩ = some (.slice yka ykn ykc) ∧ w'.cell? ⟨gb, (d + j) * 6, none⟩ = some (.int .i64 zk) ∧ w'.cell? ⟨gb, (d + j) * 6 + 1, none⟩ = some (.bool zf) ∧ w'.cell? ⟨gb, (d + j) * 6 + 2, none⟩ = some (.int .i64 zn) ∧ w'.cell? ⟨gb, (d + j) * 6 + 3, none⟩ = some (.string zs) ∧ w'.cell? ⟨gb, (d + j) * 6 + 4, none⟩ = some (.slice zla zln zlc) ∧ w'.cell? ⟨gb, (d + j) * 6 + 5, none⟩ = some (.slice zka zkn zkc))) (go_keep) ((fail))
                  all_goals
                    go_wp2
                    go_meet
                    case rel => first | exact ⟨_, _, rfl, rfl, pair2_a _ _ _⟩ | exact ⟨_, _, rfl, rfl, pair2_b _ _ _⟩
                case rest =>
                  obtain ⟨b1, b2, rfl, rfl, HPR⟩ := hcut
                  clear d0 d1 d2 d3 d4 d5 e0 e1 e2 e3 e4 e5
                  have HMID : Hid (Mid wo wc B 4 m f nn s (.slice la j lc) (.slice lz j lzc) b1 b2 #[.int .i64 yk, .bool yf, .int .i64 yn, .string ys, .slice yla yln ylc, .slice yka ykn ykc] #[.int .i64 zk, .bool zf, .int .i64 zn, .string zs, .slice zla zln zlc, .slice zka zkn zkc] la lz j j lc lzc ((ms.drop d).take j) ((ns.drop d).take j)) :=
                    ⟨HL.out.hB, HPR.out.fresh.at HL.out.bp, HPR.out.fresh.at HL.out.bx, HPR.out.fresh.at HL.out.bz, HPR.out.h1, HPR.out.h2, owns_move HL.out.rx HPR.out.fresh, owns_move HL.out.rz HPR.out.fresh, HL.out.fresh.trans HPR.out.fresh,
                      fun ad e => by have h1 := (own_type HL.out.rx ad e).2.1; have h2 := HPR.out.g1; have h3 := HPR.out.g2; omega,
                      fun ad e => by have h1 := (own_type HL.out.rz ad e).2.1; have h2 := HPR.out.g1; have h3 := HPR.out.g2; omega⟩
                  have hyc : (M.mk yk yf yn ys yla ylc yl yka ykc yks).cells = [.int .i64 yk, .bool yf, .int .i64 yn, .string ys, .slice yla yln ylc, .slice yka ykn ykc] := by rw [M.cells, HLL.out.1, HLL.out.2.1]
                  have hzc : (M.mk zk zf zn zs zla zlc zl zka zkc zks).cells = [.int .i64 zk, .bool zf, .int .i64 zn, .string zs, .slice zla zln zlc, .slice zka zkn zkc] := by rw [M.cells, HLL.out.2.2.1, HLL.out.2.2.2]
                  have HYC := Lib.hid hyc
                  have HZC := Lib.hid hzc
                  obtain ⟨p0, p1, p2, p3, p4⟩ : wc.cell? ⟨B, 0, none⟩ = some (.int .i64 4) ∧ wc.cell? ⟨B, 1, none⟩ = some (.int .i64 m) ∧ wc.cell? ⟨B, 2, none⟩ = some (.bool f) ∧ wc.cell? ⟨B, 3, none⟩ = some (.int .i64 nn) ∧ wc.cell? ⟨B, 4, none⟩ = some (.string s) :=
                    ⟨cell_of_at HMID.out.bp rfl, cell_of_at HMID.out.bp rfl, cell_of_at HMID.out.bp rfl, cell_of_at HMID.out.bp rfl, cell_of_at HMID.out.bp rfl⟩
                  clear hyc hzc
                  go_wp2_with fail
                  refine region16 (c := ⟨wo, B, 4, m, f, nn, s, b1, b2, yk, yf, yn, ys, yla, yln, ylc, yka, ykn, ykc, zk, zf, zn, zs, zla, zln, zlc, zka, zkn, zkc, M.mk yk yf yn ys yla ylc yl yka ykc yks, M.mk zk zf zn zs zla zlc zl zka zkc zks, la, lz, j, lc, lzc, (ms.drop d).take j, (ns.drop d).take j⟩) wc rfl rfl rfl rfl rfl HYC.out HZC.out (by show j ≤ 100; omega) HMID.out (fun _ _ _ _ _ h => h) ?_
                  intro k1 k2 g' g2 cap' cap2 u' hLn
                  have HLN := Lib.hid hLn
                  clear hLn
                  simp only [Cx.loaded, Act.put, List.setIfInBounds_toArray, List.set_cons_zero, List.set_cons_succ]
                  go_wp2
                  go_meet
                  case rel => exact ⟨rfl, _, _, _, _, HLN.out⟩
              case rest =>
                obtain ⟨rfl, g', g2, cap', cap2, HLN⟩ := hcut
                have HLN2 : Hid (Lists wo wc B 4 m f nn s (j + 1) (some ⟨g', 0, none⟩) (some ⟨g2, 0, none⟩) cap' cap2 ((ms.drop d).take (j + 1)) ((ns.drop d).take (j + 1))) := by rw [HTX.out, HTY.out]; exact HLN.out
                go_wp2
                go_roundw
                case rel => exact ⟨j + 1, _, _, _, _, by omega, by go_num, HLN2.out⟩
                case measure => simp [intOf]; omega
            · obtain rfl : j = q := by omega
              have hdl : (ms.drop d).length = j := by have := HS.out.la; rw [List.length_drop]; omega
              have hdl2 : (ns.drop d).length = j := by have := HS.out.lb; rw [List.length_drop]; omega
              have HL2 : Hid (Lists wo wr B 4 m f nn s j la lz lc lzc (ms.drop d) (ns.drop d)) := by
                have := HL.out
                rw [List.take_of_length_le (by omega), List.take_of_length_le (by omega)] at this
                exact this
              have HBB2 : Hid (wo.heap.size = B) := HL2.out.hB
              have HAX : Hid (M.At (Er w.heap.size wr) (M.mk 4 f nn s la lc (ms.drop d) none 0 [])) := .mk (by omega) (row_up_any (RowAt.owns HL2.out.rx) (fun ad e => by have h1 := (own_type HL2.out.rx ad e).1; have h2 := HBB2.out; omega)) (.nil _) (by omega) (by simp) (fun _ h => by cases h) (fun m hm => (HS.out.ma m (List.mem_of_mem_drop hm)).move (er_fresh HL2.out.fresh)) (fun _ h => by cases h)
              have HAY : Hid (M.At (Er w.heap.size wr) (M.mk 4 f nn s lz lzc (ns.drop d) none 0 [])) := .mk (by omega) (row_up_any (RowAt.owns HL2.out.rz) (fun ad e => by have h1 := (own_type HL2.out.rz ad e).1; have h2 := HBB2.out; omega)) (.nil _) (by omega) (by simp) (fun _ h => by cases h) (fun m hm => (HS.out.mb m (List.mem_of_mem_drop hm)).move (er_fresh HL2.out.fresh)) (fun _ h => by cases h)
              have HPL : Hid (M.plain (M.mk 4 f nn s la lc (ms.drop d) none 0 []) = M.plain (M.mk 4 f nn s lz lzc (ns.drop d) none 0 [])) := by
                rw [Hid]
                simp only [M.plain, plainL_eq]
                rw [List.map_drop, List.map_drop, HS.out.same]
              have HSZ : Hid ((M.plain (M.mk 4 f nn s la lc (ms.drop d) none 0 [])).size ≤ 1 + sizeL ((ms.drop d).map M.plain)) := by
                rw [Hid]
                simp [M.plain, plainL_eq, plainK, V.size, sizeK]
              have HCX : Hid (M.cells (M.mk 4 f nn s la lc (ms.drop d) none 0 []) = [.int .i64 4, .bool f, .int .i64 nn, .string s, .slice la j lc, .slice none 0 0]) := by rw [Hid, M.cells, hdl]; rfl
              have HCY : Hid (M.cells (M.mk 4 f nn s lz lzc (ns.drop d) none 0 []) = [.int .i64 4, .bool f, .int .i64 nn, .string s, .slice lz j lzc, .slice none 0 0]) := by rw [Hid, M.cells, hdl2]; rfl
              clear hdl hdl2 HL
              go_wp2
              refine region19 (c := ⟨wr, B, aa, ab, (d + j), d, j, ca, cb, 4, f, nn, s, la, j, lc, none, 0, 0, 4, f, nn, s, lz, j, lzc, none, 0, 0, (M.mk 4 f nn s la lc (ms.drop d) none 0 []), (M.mk 4 f nn s lz lzc (ns.drop d) none 0 []), ms.take (d), ns.take (d)⟩) wr rfl rfl rfl rfl rfl rfl HCX.out HCY.out rfl (by show (d + j) ≤ 1000; omega) (by show d ≤ ca; have := HC.out; omega) (by show d ≤ cb; have := HC.out; omega) ⟨HL2.out.bx, HL2.out.bz, row_take ((HS.out.move (er_fresh HL2.out.fresh)).down.ra) _, row_take ((HS.out.move (er_fresh HL2.out.fresh)).down.rb) _, by show (ms.take (d)).length = d; have := HS.out.la; rw [List.length_take]; omega, by show (ns.take (d)).length = d; have := HS.out.lb; rw [List.length_take]; omega, Fresh.refl _⟩ (fun _ _ _ _ _ h => h) ?_
              intro k1 k2 g g2 cap1 cap2 u' hpu
              have HST : Hid (Stacks (Er w.heap.size u') (some ⟨g, 0, none⟩) (some ⟨g2, 0, none⟩) (d + 1) (i + 1) (ms.take (d) ++ [(M.mk 4 f nn s la lc (ms.drop d) none 0 [])]) (ns.take (d) ++ [(M.mk 4 f nn s lz lzc (ns.drop d) none 0 [])])) :=
                push_stack HS.out (by omega) (HL2.out.fresh.trans hpu.fresh) ((HAX.out).move (er_fresh hpu.fresh)) ((HAY.out).move (er_fresh hpu.fresh)) HPL.out HSZ.out hpu.ra hpu.rb (by have := hpu.gx; have h2 := HL2.out.fresh.size; have h3 := HBB2.out; dsimp only at this; omega) (by have := hpu.gz; have h2 := HL2.out.fresh.size; have h3 := HBB2.out; dsimp only at this; omega)
              have HC2 := Lib.hid (And.intro hpu.c1 hpu.c2)
              have HF2 := Lib.hid (HW.out.trans (HL2.out.fresh.trans hpu.fresh))
              clear hpu
              simp only [Dx.last, Dx.loaded, Act.put, List.setIfInBounds_toArray, List.set_cons_zero, List.set_cons_succ]
              go_wp2
              go_roundw
              case rel => exact ⟨d + 1, cap1, cap2, i + 1, some ⟨g, 0, none⟩, some ⟨g2, 0, none⟩, _, _, by omega, rfl, rfl, by go_num, HST.out, HC2.out, HF2.out⟩
              case measure => simp [intOf]; omega
        by_cases hk5 : k = 5
        · subst hk5
          clear hk4
          obtain ⟨q, hq⟩ : ∃ q : Nat, min m (n : Int) = q := ⟨(min m (n : Int)).toNat, by omega⟩
          obtain ⟨d, rfl⟩ : ∃ d, n = d + q := ⟨n - q, by omega⟩
          have hq2 : min m ((d : Int) + (q : Int)) = q := by omega
          go_wp2
          have HLS : Hid (KeysL wo (((wo.alloc (.cells #[.int .i64 5, .int .i64 m, .bool f, .int .i64 nn, .string s] 60)).alloc (.cells #[.int .i64 5, .bool f, .int .i64 nn, .string s, .slice none 0 0, .slice none 0 0] 29)).alloc (.cells #[.int .i64 5, .bool f, .int .i64 nn, .string s, .slice none 0 0, .slice none 0 0] 33)) wo.heap.size 5 m f nn s 0 none none 0 0 [] []) := by
            refine ⟨rfl, at_alloc (at_alloc (at_new wo _)), at_alloc ?_, ?_, World.ownsRow_nil _ _ _ _, World.ownsRow_nil _ _ _ _, (((Fresh.refl wo).alloc _).alloc _).alloc _⟩
            · have := at_new (wo.alloc (.cells #[.int .i64 5, .int .i64 m, .bool f, .int .i64 nn, .string s] 60)) (.cells #[.int .i64 5, .bool f, .int .i64 nn, .string s, .slice none 0 0, .slice none 0 0] 29)
              rw [World.size_alloc] at this; exact this
            · have := at_new ((wo.alloc (.cells #[.int .i64 5, .int .i64 m, .bool f, .int .i64 nn, .string s] 60)).alloc (.cells #[.int .i64 5, .bool f, .int .i64 nn, .string s, .slice none 0 0, .slice none 0 0] 29)) (.cells #[.int .i64 5, .bool f, .int .i64 nn, .string s, .slice none 0 0, .slice none 0 0] 33)
              rw [World.size_alloc, World.size_alloc] at this; exact this
          generalize ((wo.alloc (.cells #[.int .i64 5, .int .i64 m, .bool f, .int .i64 nn, .string s] 60)).alloc (.cells #[.int .i64 5, .bool f, .int .i64 nn, .string s, .slice none 0 0, .slice none 0 0] 29)).alloc (.cells #[.int .i64 5, .bool f, .int .i64 nn, .string s, .slice none 0 0, .slice none 0 0] 33) = wb at *
          clear c0 c1 c2 c3 c4
          have HQ := Lib.hid hq
          generalize hBB : wo.heap.size = B at *
          clear hq hq2 hBB
          go_loopw [57] (fun a57 wq => ∃ (j : Nat) (la lz : Option Addr) (lc lzc : Nat), j ≤ q ∧ a57 = .int .i64 j ∧ Hid (KeysL wo wq B 5 m f nn s j la lz lc lzc (keysOf ⟨5, m, f, nn, s⟩ ((ms.drop d).take j)) (keysOf ⟨5, m, f, nn, s⟩ ((ns.drop d).take j)))) (fun a57 _ => q - (intOf a57).toNat)
          case atStart => exact ⟨0, none, none, 0, 0, Nat.zero_le _, rfl, HLS.out⟩
          case round =>
            obtain ⟨j, la, lz, lc, lzc, hj, rfl, HL⟩ := hrel
            clear HLS
            by_cases hlq : j < q
            · have hST := (HS.out.move (er_fresh HL.out.fresh)).down
              have hmsl : d + j < ms.length := by have := HS.out.la; omega
              have hnsl : d + j < ns.length := by have := HS.out.lb; omega
              obtain ⟨ga, ea⟩ := row_some hST.ra (d + j) hmsl
              obtain ⟨gb, eb⟩ := row_some hST.rb (d + j) hnsl
              subst ea eb
              have hy := mrow_get hST.ra (d + j) hmsl
              have hz := mrow_get hST.rb (d + j) hnsl
              have HTX : Hid (keysOf ⟨5, m, f, nn, s⟩ ((ms.drop d).take (j + 1)) = keysOf ⟨5, m, f, nn, s⟩ ((ms.drop d).take j) ++ [(keyName ⟨5, m, f, nn, s⟩ j, ms[d + j])]) := by
                rw [Hid, List.take_succ_eq_append_getElem (by simp; omega), List.getElem_drop, keysOf_snoc, show ((ms.drop d).take j).length = j by rw [List.length_take, List.length_drop]; omega]
              have HTY : Hid (keysOf ⟨5, m, f, nn, s⟩ ((ns.drop d).take (j + 1)) = keysOf ⟨5, m, f, nn, s⟩ ((ns.drop d).take j) ++ [(keyName ⟨5, m, f, nn, s⟩ j, ns[d + j])]) := by
                rw [Hid, List.take_succ_eq_append_getElem (by simp; omega), List.getElem_drop, keysOf_snoc, show ((ns.drop d).take j).length = j by rw [List.length_take, List.length_drop]; omega]
              have hga : ga < wr.heap.size := (hST.ra.lt (fun e => by have := congrArg List.length e; rw [mcells_length] at this; simp at this; omega)) _ rfl
              have hgb : gb < wr.heap.size := (hST.rb.lt (fun e => by have := congrArg List.length e; rw [mcells_length] at this; simp at this; omega)) _ rfl
              have i1 : (0 : Int) ≤ (d : Int) + (j : Int) := by omega
              have i2 : (d : Int) + (j : Int) < ((d + q : Nat) : Int) := by omega
              have i3 : ((d : Int) + (j : Int)).toNat = d + j := by omega
              have i4 : (d : Int) + (j : Int) < (d : Int) + (q : Int) := by omega
              have i5 : (j : Int) < (q : Int) := by omega
              have hdq : d + q ≤ 80 := by omega
              have w1 : IntKind.i64.wrap ((d : Int) + (q : Int) - (q : Int)) = d := by rw [Int.add_sub_cancel]; exact IntWalk.i64_in _ (by omega)
              have w2 : IntKind.i64.wrap ((d : Int) + (j : Int)) = (d : Int) + (j : Int) := IntWalk.i64_in _ (by omega)
              have w3 : IntKind.i64.wrap (d : Int) = d := IntWalk.i64_in _ (by omega)
              clear hST
              generalize ms[d + j] = y at *
              generalize ns[d + j] = z at *
              obtain ⟨yk, yf, yn, ys, yla, ylc, yl, yka, ykc, yks⟩ := y
              obtain ⟨zk, zf, zn, zs, zla, zlc, zl, zka, zkc, zks⟩ := z
              obtain ⟨d0, d1, d2, d3, d4, d5⟩ := hy
              obtain ⟨e0, e1, e2, e3, e4, e5⟩ := hz
              generalize hyln : yl.length = yln at *
              generalize hykn : yks.length = ykn at *
              generalize hzln : zl.length = zln at *
              generalize hzkn : zks.length = zkn at *
              have HLL : Hid (yl.length = yln ∧ yks.length = ykn ∧ zl.length = zln ∧ zks.length = zkn) := ⟨hyln, hykn, hzln, hzkn⟩
              clear hyln hykn hzln hzkn
              go_upto_block 3 with (fail)
              go_cut [57] (fun a57 wd => a57 = .int .i64 j ∧ ∃ g' g2 cap' cap2 : Nat, Hid (KeysL wo wd B 5 m f nn s (j + 1) (some ⟨g', 0, none⟩) (some ⟨g2, 0, none⟩) cap' cap2 (keysOf ⟨5, m, f, nn, s⟩ ((ms.drop d).take j) ++ [(keyName ⟨5, m, f, nn, s⟩ j, M.mk yk yf yn ys yla ylc yl yka ykc yks)]) (keysOf ⟨5, m, f, nn, s⟩ ((ns.drop d).take j) ++ [(keyName ⟨5, m, f, nn, s⟩ j, M.mk zk zf zn zs zla zlc zl zka zkc zks)])))
              case first =>
                go_upto_region 14 with (fail)
                go_cut [12, 13] (fun a12 a13 wc => ∃ b1 b2 : Nat, a12 = .pointer (some ⟨b1, 0, none⟩) ∧ a13 = .pointer (some ⟨b2, 0, none⟩) ∧ Hid (Pair2 wr wc b1 b2 #[.int .i64 yk, .bool yf, .int .i64 yn, .string ys, .slice yla yln ylc, .slice yka ykn ykc] #[.int .i64 zk, .bool zf, .int .i64 zn, .string zs, .slice zla zln zlc, .slice zka zkn zkc]))
                case first =>
                  go_region_held3 (fun w' => (w'.cell? ⟨ga, (d + j) * 6, none⟩ = some (.int .i64 yk) ∧ w'.cell? ⟨ga, (d + j) * 6 + 1, none⟩ = some (.bool yf) ∧ w'.cell? ⟨ga, (d + j) * 6 + 2, none⟩ = some (.int .i64 yn) ∧ w'.cell? ⟨ga, (d + j) * 6 + 3, none⟩ = some (.string ys) ∧ w'.cell? ⟨ga, (d + j) * 6 + 4, none⟩ = some (.slice yla yln ylc) ∧ w'.cell? ⟨ga, (d + j) * 6 + 5, none⟩ = some (.slice yka ykn ykc) ∧ w'.cell? ⟨gb, (d + j) * 6, none⟩ = some (.int .i64 zk) ∧ w'.cell? ⟨gb, (d + j) * 6 + 1, none⟩ = some (.bool zf) ∧ w'.cell? ⟨gb, (d + j) * 6 + 2, none⟩ = some (.int .i64 zn) ∧ w'.cell? ⟨gb, (d + j) * 6 + 3, none⟩ = some (.string zs) ∧ w'.cell? ⟨gb, (d + j) * 6 + 4, none⟩ = some (.slice zla zln zlc) ∧ w'.cell? ⟨gb, (d + j) * 6 + 5, none⟩ = some (.slice zka zkn zkc))) (go_keep) ((fail))
                  all_goals
                    go_wp2
                    go_meet
                    case rel => first | exact ⟨_, _, rfl, rfl, pair2_a _ _ _⟩ | exact ⟨_, _, rfl, rfl, pair2_b _ _ _⟩
                case rest =>
                  obtain ⟨b1, b2, rfl, rfl, HPR⟩ := hcut
                  clear d0 d1 d2 d3 d4 d5 e0 e1 e2 e3 e4 e5
                  have HMID : Hid (Kx.Mid ⟨wo, B, 5, m, f, nn, s, b1, b2, yk, yf, yn, ys, yla, yln, ylc, yka, ykn, ykc, zk, zf, zn, zs, zla, zln, zlc, zka, zkn, zkc, M.mk yk yf yn ys yla ylc yl yka ykc yks, M.mk zk zf zn zs zla zlc zl zka zkc zks, la, lz, j, lc, lzc, keysOf ⟨5, m, f, nn, s⟩ ((ms.drop d).take j), keysOf ⟨5, m, f, nn, s⟩ ((ns.drop d).take j)⟩ wc la lz j j lc lzc (keysOf ⟨5, m, f, nn, s⟩ ((ms.drop d).take j)) (keysOf ⟨5, m, f, nn, s⟩ ((ns.drop d).take j))) :=
                    ⟨HL.out.hB, HPR.out.fresh.at HL.out.bp, HPR.out.fresh.at HL.out.bx, HPR.out.fresh.at HL.out.bz, HPR.out.h1, HPR.out.h2, owns_move HL.out.rx HPR.out.fresh, owns_move HL.out.rz HPR.out.fresh, HL.out.fresh.trans HPR.out.fresh⟩
                  have hyc : (M.mk yk yf yn ys yla ylc yl yka ykc yks).cells = [.int .i64 yk, .bool yf, .int .i64 yn, .string ys, .slice yla yln ylc, .slice yka ykn ykc] := by rw [M.cells, HLL.out.1, HLL.out.2.1]
                  have hzc : (M.mk zk zf zn zs zla zlc zl zka zkc zks).cells = [.int .i64 zk, .bool zf, .int .i64 zn, .string zs, .slice zla zln zlc, .slice zka zkn zkc] := by rw [M.cells, HLL.out.2.2.1, HLL.out.2.2.2]
                  have HYC := Lib.hid hyc
                  have HZC := Lib.hid hzc
                  obtain ⟨p0, p1, p2, p3, p4⟩ : wc.cell? ⟨B, 0, none⟩ = some (.int .i64 5) ∧ wc.cell? ⟨B, 1, none⟩ = some (.int .i64 m) ∧ wc.cell? ⟨B, 2, none⟩ = some (.bool f) ∧ wc.cell? ⟨B, 3, none⟩ = some (.int .i64 nn) ∧ wc.cell? ⟨B, 4, none⟩ = some (.string s) :=
                    ⟨cell_of_at HMID.out.bp rfl, cell_of_at HMID.out.bp rfl, cell_of_at HMID.out.bp rfl, cell_of_at HMID.out.bp rfl, cell_of_at HMID.out.bp rfl⟩
                  clear hyc hzc
                  go_wp2_with fail
                  refine region17 (c := ⟨wo, B, 5, m, f, nn, s, b1, b2, yk, yf, yn, ys, yla, yln, ylc, yka, ykn, ykc, zk, zf, zn, zs, zla, zln, zlc, zka, zkn, zkc, M.mk yk yf yn ys yla ylc yl yka ykc yks, M.mk zk zf zn zs zla zlc zl zka zkc zks, la, lz, j, lc, lzc, keysOf ⟨5, m, f, nn, s⟩ ((ms.drop d).take j), keysOf ⟨5, m, f, nn, s⟩ ((ns.drop d).take j)⟩) wc rfl rfl rfl rfl rfl rfl rfl HYC.out HZC.out (by show j ≤ 100; omega) hsz HMID.out (fun _ _ _ _ _ h => h) ?_
                  intro k1 k2 g' g2 cap' cap2 u' hLn
                  have HLN := Lib.hid hLn
                  clear hLn
                  simp only [Kx.last, Kx.loaded, Act.put, List.setIfInBounds_toArray, List.set_cons_zero, List.set_cons_succ]
                  go_wp2
                  go_meet
                  case rel => exact ⟨rfl, _, _, _, _, HLN.out⟩
              case rest =>
                obtain ⟨rfl, g', g2, cap', cap2, HLN⟩ := hcut
                have HLN2 : Hid (KeysL wo wc B 5 m f nn s (j + 1) (some ⟨g', 0, none⟩) (some ⟨g2, 0, none⟩) cap' cap2 (keysOf ⟨5, m, f, nn, s⟩ ((ms.drop d).take (j + 1))) (keysOf ⟨5, m, f, nn, s⟩ ((ns.drop d).take (j + 1)))) := by rw [HTX.out, HTY.out]; exact HLN.out
                go_wp2
                go_roundw
                case rel => exact ⟨j + 1, _, _, _, _, by omega, by go_num, HLN2.out⟩
                case measure => simp [intOf]; omega
            · obtain rfl : j = q := by omega
              have hdl : (ms.drop d).length = j := by have := HS.out.la; rw [List.length_drop]; omega
              have hdl2 : (ns.drop d).length = j := by have := HS.out.lb; rw [List.length_drop]; omega
              have HL2 : Hid (KeysL wo wr B 5 m f nn s j la lz lc lzc (keysOf ⟨5, m, f, nn, s⟩ (ms.drop d)) (keysOf ⟨5, m, f, nn, s⟩ (ns.drop d))) := by
                have := HL.out
                rw [List.take_of_length_le (by omega), List.take_of_length_le (by omega)] at this
                exact this
              have HBB2 : Hid (wo.heap.size = B) := HL2.out.hB
              have HAX : Hid (M.At (Er w.heap.size wr) (M.mk 5 f nn s none 0 [] la lc (keysOf ⟨5, m, f, nn, s⟩ (ms.drop d)))) := .mk (by omega) (.nil _) (row_up_any (RowAt.owns HL2.out.rx) (fun ad e => by have h1 := (own_type HL2.out.rx ad e).1; have h2 := HBB2.out; omega)) (by simp) (by rw [keysOf_length]; omega) (fun p hp => by have h1 := (keysOf_mem hp).1; dsimp only at h1; omega) (fun _ h => by cases h) (fun p hp => (HS.out.ma p.2 (List.mem_of_mem_drop (keysOf_mem hp).2)).move (er_fresh HL2.out.fresh))
              have HAY : Hid (M.At (Er w.heap.size wr) (M.mk 5 f nn s none 0 [] lz lzc (keysOf ⟨5, m, f, nn, s⟩ (ns.drop d)))) := .mk (by omega) (.nil _) (row_up_any (RowAt.owns HL2.out.rz) (fun ad e => by have h1 := (own_type HL2.out.rz ad e).1; have h2 := HBB2.out; omega)) (by simp) (by rw [keysOf_length]; omega) (fun p hp => by have h1 := (keysOf_mem hp).1; dsimp only at h1; omega) (fun _ h => by cases h) (fun p hp => (HS.out.mb p.2 (List.mem_of_mem_drop (keysOf_mem hp).2)).move (er_fresh HL2.out.fresh))
              have HPL : Hid (M.plain (M.mk 5 f nn s none 0 [] la lc (keysOf ⟨5, m, f, nn, s⟩ (ms.drop d))) = M.plain (M.mk 5 f nn s none 0 [] lz lzc (keysOf ⟨5, m, f, nn, s⟩ (ns.drop d)))) := by
                rw [Hid]
                simp only [M.plain, plainK_keys]
                rw [List.map_drop, List.map_drop, HS.out.same]
              have HSZ : Hid ((M.plain (M.mk 5 f nn s none 0 [] la lc (keysOf ⟨5, m, f, nn, s⟩ (ms.drop d)))).size ≤ 1 + sizeL ((ms.drop d).map M.plain)) := by
                rw [Hid]
                simp only [M.plain, V.size, plainL, sizeL, keys_size]
                omega
              have HCX : Hid (M.cells (M.mk 5 f nn s none 0 [] la lc (keysOf ⟨5, m, f, nn, s⟩ (ms.drop d))) = [.int .i64 5, .bool f, .int .i64 nn, .string s, .slice none 0 0, .slice la j lc]) := by rw [Hid, M.cells, keysOf_length, hdl]; rfl
              have HCY : Hid (M.cells (M.mk 5 f nn s none 0 [] lz lzc (keysOf ⟨5, m, f, nn, s⟩ (ns.drop d))) = [.int .i64 5, .bool f, .int .i64 nn, .string s, .slice none 0 0, .slice lz j lzc]) := by rw [Hid, M.cells, keysOf_length, hdl2]; rfl
              clear hdl hdl2 HL
              go_wp2
              refine region19 (c := ⟨wr, B, aa, ab, (d + j), d, j, ca, cb, 5, f, nn, s, none, 0, 0, la, j, lc, 5, f, nn, s, none, 0, 0, lz, j, lzc, (M.mk 5 f nn s none 0 [] la lc (keysOf ⟨5, m, f, nn, s⟩ (ms.drop d))), (M.mk 5 f nn s none 0 [] lz lzc (keysOf ⟨5, m, f, nn, s⟩ (ns.drop d))), ms.take (d), ns.take (d)⟩) wr rfl rfl rfl rfl rfl rfl HCX.out HCY.out rfl (by show (d + j) ≤ 1000; omega) (by show d ≤ ca; have := HC.out; omega) (by show d ≤ cb; have := HC.out; omega) ⟨HL2.out.bx, HL2.out.bz, row_take ((HS.out.move (er_fresh HL2.out.fresh)).down.ra) _, row_take ((HS.out.move (er_fresh HL2.out.fresh)).down.rb) _, by show (ms.take (d)).length = d; have := HS.out.la; rw [List.length_take]; omega, by show (ns.take (d)).length = d; have := HS.out.lb; rw [List.length_take]; omega, Fresh.refl _⟩ (fun _ _ _ _ _ h => h) ?_
              intro k1 k2 g g2 cap1 cap2 u' hpu
              have HST : Hid (Stacks (Er w.heap.size u') (some ⟨g, 0, none⟩) (some ⟨g2, 0, none⟩) (d + 1) (i + 1) (ms.take (d) ++ [(M.mk 5 f nn s none 0 [] la lc (keysOf ⟨5, m, f, nn, s⟩ (ms.drop d)))]) (ns.take (d) ++ [(M.mk 5 f nn s none 0 [] lz lzc (keysOf ⟨5, m, f, nn, s⟩ (ns.drop d)))])) :=
                push_stack HS.out (by omega) (HL2.out.fresh.trans hpu.fresh) ((HAX.out).move (er_fresh hpu.fresh)) ((HAY.out).move (er_fresh hpu.fresh)) HPL.out HSZ.out hpu.ra hpu.rb (by have := hpu.gx; have h2 := HL2.out.fresh.size; have h3 := HBB2.out; dsimp only at this; omega) (by have := hpu.gz; have h2 := HL2.out.fresh.size; have h3 := HBB2.out; dsimp only at this; omega)
              have HC2 := Lib.hid (And.intro hpu.c1 hpu.c2)
              have HF2 := Lib.hid (HW.out.trans (HL2.out.fresh.trans hpu.fresh))
              clear hpu
              simp only [Dx.last, Dx.loaded, Act.put, List.setIfInBounds_toArray, List.set_cons_zero, List.set_cons_succ]
              go_wp2
              go_roundw
              case rel => exact ⟨d + 1, cap1, cap2, i + 1, some ⟨g, 0, none⟩, some ⟨g2, 0, none⟩, _, _, by omega, rfl, rfl, by go_num, HST.out, HC2.out, HF2.out⟩
              case measure => simp [intOf]; omega
        · have e4 : (k == 4) = false := by rw [beq_eq_false_iff_ne]; exact hk4
          have e5 : (k == 5) = false := by rw [beq_eq_false_iff_ne]; exact hk5
          clear hk4 hk5
          go_wp2
          have HF : Hid (Fresh wo (((wo.alloc (.cells #[.int .i64 k, .int .i64 m, .bool f, .int .i64 nn, .string s] 60)).alloc (.cells #[.int .i64 k, .bool f, .int .i64 nn, .string s, .slice none 0 0, .slice none 0 0] 29)).alloc (.cells #[.int .i64 k, .bool f, .int .i64 nn, .string s, .slice none 0 0, .slice none 0 0] 33))) := (((Fresh.refl wo).alloc _).alloc _).alloc _
          have HBX : Hid ((((wo.alloc (.cells #[.int .i64 k, .int .i64 m, .bool f, .int .i64 nn, .string s] 60)).alloc (.cells #[.int .i64 k, .bool f, .int .i64 nn, .string s, .slice none 0 0, .slice none 0 0] 29)).alloc (.cells #[.int .i64 k, .bool f, .int .i64 nn, .string s, .slice none 0 0, .slice none 0 0] 33)).heap[wo.heap.size + 1]? = some (.cells #[.int .i64 k, .bool f, .int .i64 nn, .string s, .slice none 0 0, .slice none 0 0] 29 (0, 0))) := at_alloc (by
            have := at_new (wo.alloc (.cells #[.int .i64 k, .int .i64 m, .bool f, .int .i64 nn, .string s] 60)) (.cells #[.int .i64 k, .bool f, .int .i64 nn, .string s, .slice none 0 0, .slice none 0 0] 29)
            rw [World.size_alloc] at this; exact this)
          have HBZ : Hid ((((wo.alloc (.cells #[.int .i64 k, .int .i64 m, .bool f, .int .i64 nn, .string s] 60)).alloc (.cells #[.int .i64 k, .bool f, .int .i64 nn, .string s, .slice none 0 0, .slice none 0 0] 29)).alloc (.cells #[.int .i64 k, .bool f, .int .i64 nn, .string s, .slice none 0 0, .slice none 0 0] 33)).heap[wo.heap.size + 1 + 1]? = some (.cells #[.int .i64 k, .bool f, .int .i64 nn, .string s, .slice none 0 0, .slice none 0 0] 33 (0, 0))) := by
            have := at_new ((wo.alloc (.cells #[.int .i64 k, .int .i64 m, .bool f, .int .i64 nn, .string s] 60)).alloc (.cells #[.int .i64 k, .bool f, .int .i64 nn, .string s, .slice none 0 0, .slice none 0 0] 29)) (.cells #[.int .i64 k, .bool f, .int .i64 nn, .string s, .slice none 0 0, .slice none 0 0] 33)
            rw [World.size_alloc, World.size_alloc] at this; exact this
          generalize ((wo.alloc (.cells #[.int .i64 k, .int .i64 m, .bool f, .int .i64 nn, .string s] 60)).alloc (.cells #[.int .i64 k, .bool f, .int .i64 nn, .string s, .slice none 0 0, .slice none 0 0] 29)).alloc (.cells #[.int .i64 k, .bool f, .int .i64 nn, .string s, .slice none 0 0, .slice none 0 0] 33) = wb at *
          clear c0 c1 c2 c3 c4
          go_loopw [57] (fun a57 wq => a57 = .int .i64 0 ∧ wq = wb) (fun _ _ => 0)
          case atStart => exact ⟨rfl, rfl⟩
          case round =>
            obtain ⟨rfl, rfl⟩ := hrel
            go_wp2
            refine region19 (c := ⟨wr, wo.heap.size, aa, ab, n, n, 0, ca, cb, k, f, nn, s, none, 0, 0, none, 0, 0, k, f, nn, s, none, 0, 0, none, 0, 0, (M.mk k f nn s none 0 [] none 0 []), (M.mk k f nn s none 0 [] none 0 []), ms.take (n), ns.take (n)⟩) wr rfl rfl rfl rfl rfl rfl rfl rfl rfl (by show n ≤ 1000; omega) (by show n ≤ ca; have := HC.out; omega) (by show n ≤ cb; have := HC.out; omega) ⟨HBX.out, HBZ.out, row_take ((HS.out.move (er_fresh HF.out)).down.ra) _, row_take ((HS.out.move (er_fresh HF.out)).down.rb) _, by show (ms.take (n)).length = n; have := HS.out.la; rw [List.length_take]; omega, by show (ns.take (n)).length = n; have := HS.out.lb; rw [List.length_take]; omega, Fresh.refl _⟩ (fun _ _ _ _ _ h => h) ?_
            intro k1 k2 g g2 cap1 cap2 u' hpu
            have HST : Hid (Stacks (Er w.heap.size u') (some ⟨g, 0, none⟩) (some ⟨g2, 0, none⟩) (n + 1) (i + 1) (ms.take (n) ++ [(M.mk k f nn s none 0 [] none 0 [])]) (ns.take (n) ++ [(M.mk k f nn s none 0 [] none 0 [])])) :=
              push_stack HS.out (by omega) (HF.out.trans hpu.fresh) ((flat_at hsz).move (er_fresh hpu.fresh)) ((flat_at hsz).move (er_fresh hpu.fresh)) rfl (flat_size k f nn s _) hpu.ra hpu.rb (by have := hpu.gx; have h2 := HF.out.size; dsimp only at this; omega) (by have := hpu.gz; have h2 := HF.out.size; dsimp only at this; omega)
            have HC2 := Lib.hid (And.intro hpu.c1 hpu.c2)
            have HF2 := Lib.hid (HW.out.trans (HF.out.trans hpu.fresh))
            clear hpu
            simp only [Dx.last, Dx.loaded, Act.put, List.setIfInBounds_toArray, List.set_cons_zero, List.set_cons_succ]
            go_wp2
            go_roundw
            case rel => exact ⟨n + 1, cap1, cap2, i + 1, some ⟨g, 0, none⟩, some ⟨g2, 0, none⟩, _, _, by omega, rfl, rfl, by go_num, HST.out, HC2.out, HF2.out⟩
            case measure => simp [intOf]; omega
      · have hm1 : m ≤ 0 := by omega
        clear hm0
        go_wp2
        have HF : Hid (Fresh wo (((wo.alloc (.cells #[.int .i64 k, .int .i64 m, .bool f, .int .i64 nn, .string s] 60)).alloc (.cells #[.int .i64 k, .bool f, .int .i64 nn, .string s, .slice none 0 0, .slice none 0 0] 29)).alloc (.cells #[.int .i64 k, .bool f, .int .i64 nn, .string s, .slice none 0 0, .slice none 0 0] 33))) := (((Fresh.refl wo).alloc _).alloc _).alloc _
        have HBX : Hid ((((wo.alloc (.cells #[.int .i64 k, .int .i64 m, .bool f, .int .i64 nn, .string s] 60)).alloc (.cells #[.int .i64 k, .bool f, .int .i64 nn, .string s, .slice none 0 0, .slice none 0 0] 29)).alloc (.cells #[.int .i64 k, .bool f, .int .i64 nn, .string s, .slice none 0 0, .slice none 0 0] 33)).heap[wo.heap.size + 1]? = some (.cells #[.int .i64 k, .bool f, .int .i64 nn, .string s, .slice none 0 0, .slice none 0 0] 29 (0, 0))) := at_alloc (by
          have := at_new (wo.alloc (.cells #[.int .i64 k, .int .i64 m, .bool f, .int .i64 nn, .string s] 60)) (.cells #[.int .i64 k, .bool f, .int .i64 nn, .string s, .slice none 0 0, .slice none 0 0] 29)
          rw [World.size_alloc] at this; exact this)
        have HBZ : Hid ((((wo.alloc (.cells #[.int .i64 k, .int .i64 m, .bool f, .int .i64 nn, .string s] 60)).alloc (.cells #[.int .i64 k, .bool f, .int .i64 nn, .string s, .slice none 0 0, .slice none 0 0] 29)).alloc (.cells #[.int .i64 k, .bool f, .int .i64 nn, .string s, .slice none 0 0, .slice none 0 0] 33)).heap[wo.heap.size + 1 + 1]? = some (.cells #[.int .i64 k, .bool f, .int .i64 nn, .string s, .slice none 0 0, .slice none 0 0] 33 (0, 0))) := by
          have := at_new ((wo.alloc (.cells #[.int .i64 k, .int .i64 m, .bool f, .int .i64 nn, .string s] 60)).alloc (.cells #[.int .i64 k, .bool f, .int .i64 nn, .string s, .slice none 0 0, .slice none 0 0] 29)) (.cells #[.int .i64 k, .bool f, .int .i64 nn, .string s, .slice none 0 0, .slice none 0 0] 33)
          rw [World.size_alloc, World.size_alloc] at this; exact this
        generalize ((wo.alloc (.cells #[.int .i64 k, .int .i64 m, .bool f, .int .i64 nn, .string s] 60)).alloc (.cells #[.int .i64 k, .bool f, .int .i64 nn, .string s, .slice none 0 0, .slice none 0 0] 29)).alloc (.cells #[.int .i64 k, .bool f, .int .i64 nn, .string s, .slice none 0 0, .slice none 0 0] 33) = wb at *
        clear c0 c1 c2 c3 c4
        go_loopw [57] (fun a57 wq => a57 = .int .i64 0 ∧ wq = wb) (fun _ _ => 0)
        case atStart => exact ⟨rfl, rfl⟩
        case round =>
          obtain ⟨rfl, rfl⟩ := hrel
          go_wp2
          refine region19 (c := ⟨wr, wo.heap.size, aa, ab, n, n, 0, ca, cb, k, f, nn, s, none, 0, 0, none, 0, 0, k, f, nn, s, none, 0, 0, none, 0, 0, (M.mk k f nn s none 0 [] none 0 []), (M.mk k f nn s none 0 [] none 0 []), ms.take (n), ns.take (n)⟩) wr rfl rfl rfl rfl rfl rfl rfl rfl rfl (by show n ≤ 1000; omega) (by show n ≤ ca; have := HC.out; omega) (by show n ≤ cb; have := HC.out; omega) ⟨HBX.out, HBZ.out, row_take ((HS.out.move (er_fresh HF.out)).down.ra) _, row_take ((HS.out.move (er_fresh HF.out)).down.rb) _, by show (ms.take (n)).length = n; have := HS.out.la; rw [List.length_take]; omega, by show (ns.take (n)).length = n; have := HS.out.lb; rw [List.length_take]; omega, Fresh.refl _⟩ (fun _ _ _ _ _ h => h) ?_
          intro k1 k2 g g2 cap1 cap2 u' hpu
          have HST : Hid (Stacks (Er w.heap.size u') (some ⟨g, 0, none⟩) (some ⟨g2, 0, none⟩) (n + 1) (i + 1) (ms.take (n) ++ [(M.mk k f nn s none 0 [] none 0 [])]) (ns.take (n) ++ [(M.mk k f nn s none 0 [] none 0 [])])) :=
            push_stack HS.out (by omega) (HF.out.trans hpu.fresh) ((flat_at hsz).move (er_fresh hpu.fresh)) ((flat_at hsz).move (er_fresh hpu.fresh)) rfl (flat_size k f nn s _) hpu.ra hpu.rb (by have := hpu.gx; have h2 := HF.out.size; dsimp only at this; omega) (by have := hpu.gz; have h2 := HF.out.size; dsimp only at this; omega)
          have HC2 := Lib.hid (And.intro hpu.c1 hpu.c2)
          have HF2 := Lib.hid (HW.out.trans (HF.out.trans hpu.fresh))
          clear hpu
          simp only [Dx.last, Dx.loaded, Act.put, List.setIfInBounds_toArray, List.set_cons_zero, List.set_cons_succ]
          go_wp2
          go_roundw
          case rel => exact ⟨n + 1, cap1, cap2, i + 1, some ⟨g, 0, none⟩, some ⟨g2, 0, none⟩, _, _, by omega, rfl, rfl, by go_num, HST.out, HC2.out, HF2.out⟩
          case measure => simp [intOf]; omega
    · obtain rfl : i = len := by omega
      have hb2 : wo.heap[w.heap.size]? = some (.cells #[.int .i64 0, .bool false, .int .i64 0, .string ⟨#[]⟩, .slice none 0 0, .slice none 0 0] 29 (0, 0)) := HW.out.at (at_alloc (at_new w _))
      have hb3 : wo.heap[w.heap.size + 1]? = some (.cells #[.int .i64 0, .bool false, .int .i64 0, .string ⟨#[]⟩, .slice none 0 0, .slice none 0 0] 33 (0, 0)) := HW.out.at (by
        have := at_new (w.alloc (.cells #[.int .i64 0, .bool false, .int .i64 0, .string ⟨#[]⟩, .slice none 0 0, .slice none 0 0] 29)) (.cells #[.int .i64 0, .bool false, .int .i64 0, .string ⟨#[]⟩, .slice none 0 0, .slice none 0 0] 33)
        rw [World.size_alloc] at this; exact this)
      have HB2 := Lib.hid hb2
      have HB3 := Lib.hid hb3
      have HWW : Hid (Fresh w wo) := (((Fresh.refl w).alloc _).alloc _).trans HW.out
      have hlt2 : w.heap.size < wo.heap.size := by omega
      by_cases hn0 : n = 0
      · have hz : ((n : Int) == 0) = true := by rw [hn0]; rfl
        obtain ⟨k0, k1, k2, k3, k4, k5⟩ := box6' hb2
        obtain ⟨l0, l1, l2, l3, l4, l5⟩ := box6' hb3
        have f0 := frozen6 hb2 0
        have f1 := frozen6 hb2 1
        have f2 := frozen6 hb2 2
        have f3 := frozen6 hb2 3
        have f4 := frozen6 hb2 4
        have f5 := frozen6 hb2 5
        have g0 := frozen6 hb3 0
        have g1 := frozen6 hb3 1
        have g2 := frozen6 hb3 2
        have g3 := frozen6 hb3 3
        have g4 := frozen6 hb3 4
        have g5 := frozen6 hb3 5
        clear hb2 hb3 hn0
        go_wp2
        refine bodyPost_ret (v := .tuple #[M.zero.val, M.zero.val]) (by simp [results, Tryd.results8, go_sem, M.zero, M.val, *]) rfl ⟨⟨M.zero, M.zero, rfl, zero_at _, zero_at _, rfl, by simp [M.zero, M.plain, plainL, plainK, V.size, sizeL, sizeK]⟩, ?_⟩
        exact set6_fresh (set6_fresh HWW.out (Nat.le_refl _)) (Nat.le_succ _)
      · obtain ⟨d, rfl⟩ : ∃ d, n = d + 1 := ⟨n - 1, by omega⟩
        have hz : (((d + 1 : Nat) : Int) == 0) = false := by rw [beq_eq_false_iff_ne]; omega
        have hz2 : ((d : Int) + 1 == 0) = false := by rw [beq_eq_false_iff_ne]; omega
        have hmd : d < ms.length := by have := HS.out.la; omega
        have hnd : d < ns.length := by have := HS.out.lb; omega
        obtain ⟨ga, ea⟩ := row_some HS.out.ra d hmd
        obtain ⟨gb, eb⟩ := row_some HS.out.rb d hnd
        subst ea eb
        have hy := mrow_get HS.out.ra d hmd
        have hzz := mrow_get HS.out.rb d hnd
        have HXA : Hid (M.At (Er w.heap.size wo) ms[d]) := HS.out.ma _ (List.getElem_mem hmd)
        have HYA : Hid (M.At (Er w.heap.size wo) ns[d]) := HS.out.mb _ (List.getElem_mem hnd)
        have HPL : Hid (ms[d].plain = ns[d].plain) := by
          have h1 := congrArg (fun l : List V => l[d]?) HS.out.same
          simp only [List.getElem?_map, List.getElem?_eq_getElem hmd, List.getElem?_eq_getElem hnd, Option.map_some] at h1
          exact Option.some.inj h1
        have HSZ : Hid (ms[d].plain.size ≤ 81) := by
          have h1 := size_mem (List.mem_map_of_mem (f := M.plain) (List.getElem_mem hmd))
          have h2 := HS.out.size
          rw [Hid]; omega
        generalize ms[d] = y at *
        generalize ns[d] = z at *
        obtain ⟨yk, yf, yn, ys, yla, ylc, yl, yka, ykc, yks⟩ := y
        obtain ⟨zk, zf, zn, zs, zla, zlc, zl, zka, zkc, zks⟩ := z
        have HAT : Hid (Ex.At ⟨w.heap.size, ga, gb, d, ca, cb, yk, yf, yn, ys, yla, yl.length, ylc, yka, yks.length, ykc, zk, zf, zn, zs, zla, zl.length, zlc, zka, zks.length, zkc⟩ wo) := by
          obtain ⟨d0, d1, d2, d3, d4, d5⟩ := hy
          obtain ⟨e0, e1, e2, e3, e4, e5⟩ := hzz
          exact ⟨⟨(er_cell d0).2.2, (er_cell d1).2.2, (er_cell d2).2.2, (er_cell d3).2.2, (er_cell d4).2.2, (er_cell d5).2.2⟩, ⟨(er_cell e0).2.2, (er_cell e1).2.2, (er_cell e2).2.2, (er_cell e3).2.2, (er_cell e4).2.2, (er_cell e5).2.2⟩, ⟨(er_cell d0).1, (er_cell d0).2.1⟩, (er_cell e0).1, (er_cell e0).2.1⟩
        clear hb2 hb3 hy hzz hn0
        go_wp2
        refine region23 (c := ⟨w.heap.size, ga, gb, d, ca, cb, yk, yf, yn, ys, yla, yl.length, ylc, yka, yks.length, ykc, zk, zf, zn, zs, zla, zl.length, zlc, zka, zks.length, zkc⟩) wo rfl rfl rfl rfl rfl (by show d ≤ 1000; omega) HAT.out HB2.out HB3.out (fun _ _ _ _ _ h => h) ?_
        have hq2 : (set6 (set6 wo.drew w.heap.size (.int .i64 yk) (.bool yf) (.int .i64 yn) (.string ys) (.slice yla yl.length ylc) (.slice yka yks.length ykc)) (w.heap.size + 1) (.int .i64 zk) (.bool zf) (.int .i64 zn) (.string zs) (.slice zla zl.length zlc) (.slice zka zks.length zkc)).heap[w.heap.size]? = _ := (set6_other (by omega)).trans (set6_at (w := wo.drew) HB2.out)
        have hq3 : (set6 (set6 wo.drew w.heap.size (.int .i64 yk) (.bool yf) (.int .i64 yn) (.string ys) (.slice yla yl.length ylc) (.slice yka yks.length ykc)) (w.heap.size + 1) (.int .i64 zk) (.bool zf) (.int .i64 zn) (.string zs) (.slice zla zl.length zlc) (.slice zka zks.length zkc)).heap[w.heap.size + 1]? = _ := set6_at ((set6_other (w := wo.drew) (by omega)).trans HB3.out)
        have HFR : Hid (Fresh w (set6 (set6 wo.drew w.heap.size (.int .i64 yk) (.bool yf) (.int .i64 yn) (.string ys) (.slice yla yl.length ylc) (.slice yka yks.length ykc)) (w.heap.size + 1) (.int .i64 zk) (.bool zf) (.int .i64 zn) (.string zs) (.slice zla zl.length zlc) (.slice zka zks.length zkc))) := set6_fresh (set6_fresh HWW.out.drew (Nat.le_refl _)) (Nat.le_succ _)
        have HOT : Hid (∀ k, k ≠ w.heap.size → k ≠ w.heap.size + 1 → (set6 (set6 wo.drew w.heap.size (.int .i64 yk) (.bool yf) (.int .i64 yn) (.string ys) (.slice yla yl.length ylc) (.slice yka yks.length ykc)) (w.heap.size + 1) (.int .i64 zk) (.bool zf) (.int .i64 zn) (.string zs) (.slice zla zl.length zlc) (.slice zka zks.length zkc)).heap[k]? = wo.heap[k]?) := fun k h1 h2 => (set6_other h2).trans (set6_other h1)
        change Exit.then _ _ _ _ (set6 (set6 wo.drew w.heap.size (.int .i64 yk) (.bool yf) (.int .i64 yn) (.string ys) (.slice yla yl.length ylc) (.slice yka yks.length ykc)) (w.heap.size + 1) (.int .i64 zk) (.bool zf) (.int .i64 zn) (.string zs) (.slice zla zl.length zlc) (.slice zka zks.length zkc))
        generalize set6 (set6 wo.drew w.heap.size (.int .i64 yk) (.bool yf) (.int .i64 yn) (.string ys) (.slice yla yl.length ylc) (.slice yka yks.length ykc)) (w.heap.size + 1) (.int .i64 zk) (.bool zf) (.int .i64 zn) (.string zs) (.slice zla zl.length zlc) (.slice zka zks.length zkc) = wf at *
        obtain ⟨k0, k1, k2, k3, k4, k5⟩ := box6' hq2
        obtain ⟨l0, l1, l2, l3, l4, l5⟩ := box6' hq3
        have HUP : Hid (∀ m : M, m.At (Er w.heap.size wo) → m.At wf) := fun m h => h.cells fun g j x e => by
          obtain ⟨h1, h2, h3⟩ := er_cell e
          rw [World.cell?_of_block (a := ⟨g, j, none⟩) (HOT.out g h1 h2)]; exact h3
        clear hq2 hq3
        simp only [Ex.loaded, Act.put, List.setIfInBounds_toArray, List.set_cons_zero, List.set_cons_succ]
        go_wp2
        exact bodyPost_ret (v := .tuple #[mval yk yf yn ys yla yl.length ylc yka yks.length ykc, mval zk zf zn zs zla zl.length zlc zka zks.length zkc]) (by simp [results, Tryd.results8, go_sem, *]) rfl ⟨⟨_, _, rfl, HUP.out _ HXA.out, HUP.out _ HYA.out, HPL.out, HSZ.out⟩, HFR.out⟩
end Go.Proofs.YtonakfkiidhebaaDoor

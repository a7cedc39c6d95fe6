/-
  Lists of what is made of each container, by package upgrade's functions. (printed by geneach.py.txt)
  What is made of a pod, and of lists of pods, by package upgrade. (printed by geneach2.py.txt)
-/
import Derived.Test.YtldncgelghcjeaaGreatDoorUpd01
import Derived.Test.YtldncgelghcjeaaGreatDoorCat06
import Derived.Deep.RegionHeld3
set_option linter.unusedSimpArgs false
set_option linter.unusedVariables false
namespace Go.Proofs.YtldncgelghcjeaaGreatDoor.K
open Go.ChangeShapes Go.WideShapes Go.ChangeAt Go.RowKit
set_option maxRecDepth 100000

/-- A container of version 3 that is made of one of version 2: its lists are empty. -/
def cmOf (c : C2) : CM := ⟨upC c, none, 0, none, 0, none, 0⟩
theorem cmOf_in (w : World) (c : C2) : (cmOf c).In w := ⟨.nil _ _, .nil _ _, .nil _ _, Nat.le_refl _⟩
def dnM (m : CM) : C2 := dnC m.c
theorem ccells_snoc1 (l : List CM) (m : CM) : ccells (l ++ [m]) = ccells l ++ m.cells := by simp [ccells]
theorem c2s_snoc1 (l : List C2) (m : C2) : c2s (l ++ [m]) = c2s l ++ m.cells := by simp [c2s]
theorem infoUC : (Tryz.prog.info? 126).map (fun i => (i.zero, i.size, i.bytes)) = some (some (.agg #[.string ⟨#[]⟩, .string ⟨#[]⟩, .slice none 0 0, .slice none 0 0, .int .i64 0, .int .i64 0, .slice none 0 0]), 7, 120) := by kernel_rfl
theorem infoUC2 : (Tryz.prog.info? 160).map (fun i => (i.zero, i.size, i.bytes)) = some (some (.agg #[.string ⟨#[]⟩, .string ⟨#[]⟩]), 2, 32) := by kernel_rfl
theorem crow_form1 {w : World} {a : Option Addr} {l : List CM} (h : RowAt w a (ccells l)) {i0 : Nat} (h0 : i0 < l.length) : ∃ g o, a = some ⟨g, o, none⟩ ∧ ∀ i (hi : i < l.length), w.cell? ⟨g, o + i * 7, none⟩ = some (.string l[i].c.name) ∧ w.cell? ⟨g, o + i * 7 + 1, none⟩ = some (.string l[i].c.image) ∧ w.cell? ⟨g, o + i * 7 + 2, none⟩ = some (.slice l[i].ca l[i].c.cmd.length l[i].cc) ∧ w.cell? ⟨g, o + i * 7 + 3, none⟩ = some (.slice l[i].pa l[i].c.ports.length l[i].pc) ∧ w.cell? ⟨g, o + i * 7 + 4, none⟩ = some (.int .i64 l[i].c.cpu) ∧ w.cell? ⟨g, o + i * 7 + 5, none⟩ = some (.int .i64 l[i].c.mem) ∧ w.cell? ⟨g, o + i * 7 + 6, none⟩ = some (.slice l[i].ea l[i].c.env.length l[i].ec) := by
  obtain ⟨g, o, e, h⟩ := h.form (fun e => by
    have := ccells_len l
    rw [e] at this
    simp at this; omega)
  have each : ∀ i (hi : i < l.length) j x, j < 7 → l[i].cells[j]? = some x → w.cell? ⟨g, o + i * 7 + j, none⟩ = some x := fun i hi j x hj hx => by
    have := h _ _ ((flat_get CM.cells 7 (fun _ => rfl) l i hi j hj).trans hx)
    rw [Nat.add_assoc]; exact this
  exact ⟨g, o, e, fun i hi => ⟨each i hi 0 _ (by omega) rfl, each i hi 1 _ (by omega) rfl, each i hi 2 _ (by omega) rfl, each i hi 3 _ (by omega) rfl, each i hi 4 _ (by omega) rfl, each i hi 5 _ (by omega) rfl, each i hi 6 _ (by omega) rfl⟩⟩
theorem three1_any (x1 x2 : ByteArray) (w : World) : Calls Tryz.prog 73 #[.agg #[.string x1, .string x2]] w fun e w' => e = .returned (.agg #[.string x1, .string x2, .slice none 0 0, .slice none 0 0, .int .i64 100, .int .i64 64, .slice none 0 0]) ∧ Fresh w w' := by
  have hb := (two_boxes w (.cells #[.string x1, .string x2] 160) (.cells #[.string x1, .string x2, .slice none 0 0, .slice none 0 0, .int .i64 100, .int .i64 64, .slice none 0 0] 126)).2.1
  have r0 := cell_of_at hb (i := 0) rfl
  have r1 := cell_of_at hb (i := 1) rfl
  have r2 := cell_of_at hb (i := 2) rfl
  have r3 := cell_of_at hb (i := 3) rfl
  have r4 := cell_of_at hb (i := 4) rfl
  have r5 := cell_of_at hb (i := 5) rfl
  have r6 := cell_of_at hb (i := 6) rfl
  clear hb
  go_enter Tryz.func73, Tryz.ntmps73
  go_wp2
  exact bodyPost_ret (v := .agg #[.string x1, .string x2, .slice none 0 0, .slice none 0 0, .int .i64 100, .int .i64 64, .slice none 0 0]) (by simp [results, Tryz.results73, go_sem, *]) rfl ⟨rfl, ((Fresh.refl w).alloc _).alloc _⟩
theorem old1_any (x1 x2 : ByteArray) (v2 v3 v6 : Value) (n4 n5 : Int) (w : World) : Calls Tryz.prog 106 #[.agg #[.string x1, .string x2, v2, v3, .int .i64 n4, .int .i64 n5, v6]] w fun e w' => e = .returned (.agg #[.string x1, .string x2]) ∧ Fresh w w' := by
  have hb := (two_boxes w (.cells #[.string x1, .string x2, v2, v3, .int .i64 n4, .int .i64 n5, v6] 126) (.cells #[.string x1, .string x2] 160)).2.1
  have r0 := cell_of_at hb (i := 0) rfl
  have r1 := cell_of_at hb (i := 1) rfl
  clear hb
  go_enter Tryz.func106, Tryz.ntmps106
  go_wp2
  exact bodyPost_ret (v := .agg #[.string x1, .string x2]) (by simp [results, Tryz.results106, go_sem, *]) rfl ⟨rfl, ((Fresh.refl w).alloc _).alloc _⟩
set_option maxHeartbeats 4000000 in
theorem eachC_any (a : Option Addr) (l : List C2) (c : Nat) (w : World) (h : RowAt w a (c2s l)) (hl : l.length ≤ 4000000) :
    Calls Tryz.prog 76 #[.slice a l.length c, .func (.func 73) #[] #[]] w fun e w' => ∃ o cp, e = .returned (.slice o l.length cp) ∧ w'.ownsRow w.heap.size 126 7 (.slice o l.length cp) l.length (ccells (l.map cmOf)) ∧ Fresh w w' := by
  have HROW := Lib.hid h
  obtain ⟨i0, hi, hz0, hz1, hz2⟩ := info_parts infoUC
  clear h
  go_enter Tryz.func76, Tryz.ntmps76
  go_wp2
  go_loopw [5, 10] (fun a5 a10 wr => ∃ (k : Nat) (o : Option Addr) (cp : Nat), a10 = .int .i64 (k : Int) ∧ a5 = .slice o k cp ∧ k ≤ l.length ∧ Hid (wr.ownsRow w.heap.size 126 7 (.slice o k cp) k (ccells ((l.take k).map cmOf))) ∧ Hid (Fresh w wr)) (fun _ a10 _ => l.length - (intOf a10).toNat)
  case atStart => exact ⟨0, none, 0, rfl, rfl, Nat.zero_le _, World.ownsRow_nil _ _ _ _, Fresh.refl _⟩
  case round =>
    obtain ⟨k, o, cp, rfl, rfl, hk, HOW, HF⟩ := hrel
    by_cases hlt : k < l.length
    · obtain ⟨g, o1, rfl, hc⟩ := c2_form (HROW.out.move HF.out) hlt
      obtain ⟨c0, c1⟩ := hc k hlt
      have HTK : Hid (ccells ((l.take (k + 1)).map cmOf) = ccells ((l.take k).map cmOf) ++ (cmOf l[k]).cells) := by rw [Hid, List.take_succ_eq_append_getElem hlt, List.map_append, List.map_cons, List.map_nil, ccells_snoc1]
      clear hc
      generalize l[k] = x at *
      obtain ⟨x1, x2⟩ := x
      dsimp only [cmOf, upC, CM.cells] at *
      have HC1 := Lib.hid (three1_any x1 x2 (wr.alloc (.cells #[.string x1, .string x2] 160)))
      have HF0 := Lib.hid ((Fresh.refl wr).alloc (.cells #[.string x1, .string x2] 160))
      go_wp2_with (fail)
      all_goals try (exfalso; omega)
      refine HC1.out.mono ?_
      rintro e w5 ⟨rfl, hf⟩
      have HFX := Lib.hid (HF0.out.trans hf)
      have HO := Lib.hid (own_fresh HOW.out HFX.out)
      have HF5 := Lib.hid (HF.out.trans HFX.out)
      have HW5 : Hid (w.heap.size ≤ w5.heap.size) := HF5.out.size
      clear hf HC1 HF0 HFX
      have HN := Lib.hid (news7 w5 126 [.string x1, .string x2, .slice none 0 0, .slice none 0 0, .int .i64 100, .int .i64 64, .slice none 0 0])
      go_wp2_with (at_builtin; refine Hid.out ?_)
      refine Lib.hid ?_
      refine wpList_append_own _ rfl _ _ 39 rfl w.heap.size 126 i0 (.agg #[.string ⟨#[]⟩, .string ⟨#[]⟩, .slice none 0 0, .slice none 0 0, .int .i64 0, .int .i64 0, .slice none 0 0]) 7 120 Tryz.underlying39 hi hz0 hz1 hz2 rfl (by decide) _ k _ rfl (World.ownsRow.alloc HO.out _) ⟨w5.heap.size, 0, none⟩ 1 1 [.string x1, .string x2, .slice none 0 0, .slice none 0 0, .int .i64 100, .int .i64 64, .slice none 0 0] rfl rfl HN.out (by simp [Value.oneCell']) (by unfold maxLen; omega) (by omega) (by rw [World.size_alloc]; have := HW5.out; omega) ?_
      intro v' w6 hown' hgrow _
      obtain ⟨g', cap', rfl⟩ := ownsRow_succ hown'
      have HFR := Lib.hid ((HF5.out.alloc _).grown hgrow (fun g e => (World.ownsRow.lt HO.out g e).1))
      have HOWN := Lib.hid hown'
      clear hown' hgrow
      go_wp2
      go_roundw
      case rel => exact ⟨k + 1, some ⟨g', 0, none⟩, cap', by simp, rfl, by omega, by rw [HTK.out]; exact HOWN.out, HFR.out⟩
      case measure => simp [intOf]; omega
    · obtain rfl : k = l.length := by omega
      go_wp2
      all_goals try (exfalso; omega)
      go_ret
      refine ⟨o, cp, rfl, ?_, HF.out⟩
      have := HOW.out
      rw [List.take_length] at this
      exact this
set_option maxHeartbeats 4000000 in
theorem eachD_any (a : Option Addr) (l : List CM) (c : Nat) (w : World) (h : RowAt w a (ccells l)) (hl : l.length ≤ 4000000) :
    Calls Tryz.prog 109 #[.slice a l.length c, .func (.func 106) #[] #[]] w fun e w' => ∃ o cp, e = .returned (.slice o l.length cp) ∧ w'.ownsRow w.heap.size 160 2 (.slice o l.length cp) l.length (c2s (l.map dnM)) ∧ Fresh w w' := by
  have HROW := Lib.hid h
  obtain ⟨i0, hi, hz0, hz1, hz2⟩ := info_parts infoUC2
  clear h
  go_enter Tryz.func109, Tryz.ntmps109
  go_wp2
  go_loopw [5, 10] (fun a5 a10 wr => ∃ (k : Nat) (o : Option Addr) (cp : Nat), a10 = .int .i64 (k : Int) ∧ a5 = .slice o k cp ∧ k ≤ l.length ∧ Hid (wr.ownsRow w.heap.size 160 2 (.slice o k cp) k (c2s ((l.take k).map dnM))) ∧ Hid (Fresh w wr)) (fun _ a10 _ => l.length - (intOf a10).toNat)
  case atStart => exact ⟨0, none, 0, rfl, rfl, Nat.zero_le _, World.ownsRow_nil _ _ _ _, Fresh.refl _⟩
  case round =>
    obtain ⟨k, o, cp, rfl, rfl, hk, HOW, HF⟩ := hrel
    by_cases hlt : k < l.length
    · obtain ⟨g, o1, rfl, hc⟩ := crow_form1 (HROW.out.move HF.out) hlt
      obtain ⟨c0, c1, c2, c3, c4, c5, c6⟩ := hc k hlt
      have HTK : Hid (c2s ((l.take (k + 1)).map dnM) = c2s ((l.take k).map dnM) ++ (dnM l[k]).cells) := by rw [Hid, List.take_succ_eq_append_getElem hlt, List.map_append, List.map_cons, List.map_nil, c2s_snoc1]
      clear hc
      generalize l[k] = x at *
      obtain ⟨⟨x1, x2, x3, x4, x5, x6, x7⟩, y1, y2, y3, y4, y5, y6⟩ := x
      dsimp only [dnM, dnC, C2.cells] at *
      have HC1 := Lib.hid (old1_any x1 x2 (.slice y1 x3.length y2) (.slice y3 x4.length y4) (.slice y5 x7.length y6) x5 x6 (wr.alloc (.cells #[.string x1, .string x2, .slice y1 x3.length y2, .slice y3 x4.length y4, .int .i64 x5, .int .i64 x6, .slice y5 x7.length y6] 126)))
      have HF0 := Lib.hid ((Fresh.refl wr).alloc (.cells #[.string x1, .string x2, .slice y1 x3.length y2, .slice y3 x4.length y4, .int .i64 x5, .int .i64 x6, .slice y5 x7.length y6] 126))
      go_wp2_with (fail)
      all_goals try (exfalso; omega)
      refine HC1.out.mono ?_
      rintro e w5 ⟨rfl, hf⟩
      have HFX := Lib.hid (HF0.out.trans hf)
      have HO := Lib.hid (own_fresh HOW.out HFX.out)
      have HF5 := Lib.hid (HF.out.trans HFX.out)
      have HW5 : Hid (w.heap.size ≤ w5.heap.size) := HF5.out.size
      clear hf HC1 HF0 HFX
      have HN := Lib.hid (news7 w5 160 [.string x1, .string x2])
      go_wp2_with (at_builtin; refine Hid.out ?_)
      refine Lib.hid ?_
      refine wpList_append_own _ rfl _ _ 156 rfl w.heap.size 160 i0 (.agg #[.string ⟨#[]⟩, .string ⟨#[]⟩]) 2 32 Tryz.underlying156 hi hz0 hz1 hz2 rfl (by decide) _ k _ rfl (World.ownsRow.alloc HO.out _) ⟨w5.heap.size, 0, none⟩ 1 1 [.string x1, .string x2] rfl rfl HN.out (by simp [Value.oneCell']) (by unfold maxLen; omega) (by omega) (by rw [World.size_alloc]; have := HW5.out; omega) ?_
      intro v' w6 hown' hgrow _
      obtain ⟨g', cap', rfl⟩ := ownsRow_succ hown'
      have HFR := Lib.hid ((HF5.out.alloc _).grown hgrow (fun g e => (World.ownsRow.lt HO.out g e).1))
      have HOWN := Lib.hid hown'
      clear hown' hgrow
      go_wp2
      go_roundw
      case rel => exact ⟨k + 1, some ⟨g', 0, none⟩, cap', by simp, rfl, by omega, by rw [HTK.out]; exact HOWN.out, HFR.out⟩
      case measure => simp [intOf]; omega
    · obtain rfl : k = l.length := by omega
      go_wp2
      all_goals try (exfalso; omega)
      go_ret
      refine ⟨o, cp, rfl, ?_, HF.out⟩
      have := HOW.out
      rw [List.take_length] at this
      exact this
end Go.Proofs.YtldncgelghcjeaaGreatDoor.K
namespace Go.Proofs.YtldncgelghcjeaaGreatDoor.K
open Go.ChangeShapes Go.WideShapes Go.ChangeAt Go.RowKit
set_option maxRecDepth 100000

def M3.fl (x : M3) : Value := .agg #[.string x.file, .string x.m.name, .string x.m.ns, .int .i64 x.m.restart, .int .i64 x.m.grace, .bool x.m.host, .slice x.m.a x.m.cs.length x.m.cap]
def M2.OwnC (N : Nat) (W : World) (m : M2) : Prop := W.ownsRow N 160 2 (.slice m.a m.p.cs.length m.c) m.p.cs.length (c2s m.p.cs)
def M3.OwnC (N : Nat) (W : World) (x : M3) : Prop := W.ownsRow N 126 7 (.slice x.m.a x.m.cs.length x.m.cap) x.m.cs.length (ccells x.m.cs) ∧ ∀ m ∈ x.m.cs, ∃ c, m = cmOf c
theorem M2.OwnC.fresh {N : Nat} {W W' : World} {m : M2} (h : m.OwnC N W) (f : Fresh W W') : m.OwnC N W' := own_fresh h f
theorem M3.OwnC.fresh {N : Nat} {W W' : World} {m : M3} (h : m.OwnC N W) (f : Fresh W W') : m.OwnC N W' := ⟨own_fresh h.1 f, h.2⟩
theorem M2.OwnC.mono {N N' : Nat} {W : World} {m : M2} (h : m.OwnC N W) (f : N' ≤ N) : m.OwnC N' W := World.ownsRow.mono h f
theorem M3.OwnC.mono {N N' : Nat} {W : World} {m : M3} (h : m.OwnC N W) (f : N' ≤ N) : m.OwnC N' W := ⟨World.ownsRow.mono h.1 f, h.2⟩
theorem M2.OwnC.grown {N B e k n : Nat} {v : Value} {xs : List Value} {W W' : World} {m : M2} (h : m.OwnC N W) (ho : W.ownsRow B e k v n xs) (hne : 160 ≠ e) (hg : W.grownBy W' v.ownBlock) : m.OwnC N W' := own_kept_ne2 h ho hne hg
theorem M3.OwnC.grown {N B e k n : Nat} {v : Value} {xs : List Value} {W W' : World} {m : M3} (h : m.OwnC N W) (ho : W.ownsRow B e k v n xs) (hne : 126 ≠ e) (hg : W.grownBy W' v.ownBlock) : m.OwnC N W' := ⟨own_kept_ne2 h.1 ho hne hg, h.2⟩
theorem M2.OwnC.inn {N : Nat} {W : World} {m : M2} (h : m.OwnC N W) : m.In W := ⟨RowAt.owns h, own_le h⟩
theorem M3.OwnC.inn {N : Nat} {W : World} {x : M3} (h : x.OwnC N W) : x.m.At W := ⟨RowAt.owns h.1, fun m hm => by
  obtain ⟨c, rfl⟩ := h.2 m hm
  exact cmOf_in W c, own_le h.1⟩
theorem own_lit {w : World} {e : TypeId} {k : Nat} (cs : List Value) (hk : cs.length = k) : (w.alloc (.cells cs.toArray e)).ownsRow w.heap.size e k (.slice (some ⟨w.heap.size, 0, none⟩) 1 1) 1 cs :=
  ⟨by omega, .inr ⟨w.heap.size, 1, cs.toArray, rfl, Nat.le_refl _, at_new _ _, Nat.le_refl _, by decide, by simp [hk], by simp [← hk]⟩⟩
theorem set7_cell {w : World} {g i z : Nat} {x u0 u1 u2 u3 u4 u5 u6 : Value} (h : w.cell? ⟨g, i, none⟩ = some x) (hne : g ≠ z) :
    (((((((w.setCell ⟨z, 0, none⟩ u0).setCell ⟨z, 1, none⟩ u1).setCell ⟨z, 2, none⟩ u2).setCell ⟨z, 3, none⟩ u3).setCell ⟨z, 4, none⟩ u4).setCell ⟨z, 5, none⟩ u5).setCell ⟨z, 6, none⟩ u6).cell? ⟨g, i, none⟩ = some x :=
  cell_set_ne (cell_set_ne (cell_set_ne (cell_set_ne (cell_set_ne (cell_set_ne (cell_set_ne h hne) hne) hne) hne) hne) hne) hne
theorem set6_cell7 {w : World} {g i z : Nat} {x u0 u1 u2 u3 u4 u5 : Value} (h : w.cell? ⟨g, i, none⟩ = some x) (hne : g ≠ z) :
    ((((((w.setCell ⟨z, 0, none⟩ u0).setCell ⟨z, 1, none⟩ u1).setCell ⟨z, 2, none⟩ u2).setCell ⟨z, 3, none⟩ u3).setCell ⟨z, 4, none⟩ u4).setCell ⟨z, 5, none⟩ u5).cell? ⟨g, i, none⟩ = some x :=
  cell_set_ne (cell_set_ne (cell_set_ne (cell_set_ne (cell_set_ne (cell_set_ne h hne) hne) hne) hne) hne) hne
theorem infoUP2 : (Tryz.prog.info? 158).map (fun i => (i.zero, i.size, i.bytes)) = some (some (.agg #[.string ⟨#[]⟩, .string ⟨#[]⟩, .string ⟨#[]⟩, .int .u8 0, .int .u16 0, .slice none 0 0]), 6, 80) := by kernel_rfl
theorem infoUP3 : (Tryz.prog.info? 93).map (fun i => (i.zero, i.size, i.bytes)) = some (some (.agg #[.string ⟨#[]⟩, .string ⟨#[]⟩, .string ⟨#[]⟩, .int .i64 0, .int .i64 0, .bool false, .slice none 0 0]), 7, 96) := by kernel_rfl
set_option maxHeartbeats 4000000 in
theorem two1_any (p : P1) (w : World) : Calls Tryz.prog 72 #[p.val] w fun e w' => ∃ m : M2, e = .returned m.val ∧ m.p = up1 p ∧ m.OwnC w.heap.size w' ∧ Fresh w w' := by
  obtain ⟨x1, x2, x3, x4⟩ := p
  dsimp only [P1.val]
  have hown := own_lit (w := (w.alloc (.cells #[.string x1, .string x2, .string x3, .int .u8 x4] 154)).alloc (.cells #[.string x1, .string x2, .string nsDef, .int .u8 x4, .int .u16 30, .slice (some ⟨w.heap.size + 1 + 1, 0, none⟩) 1 1] 158)) (e := 160) (k := 2) [.string mainB, .string x3] rfl
  rw [World.size_alloc, World.size_alloc] at hown
  have HOWN := Lib.hid hown
  have hb := at_alloc (p := .cells #[.string mainB, .string x3] 160) (two_boxes w (.cells #[.string x1, .string x2, .string x3, .int .u8 x4] 154) (.cells #[.string x1, .string x2, .string nsDef, .int .u8 x4, .int .u16 30, .slice (some ⟨w.heap.size + 1 + 1, 0, none⟩) 1 1] 158)).2.1
  have r0 := cell_of_at hb (i := 0) rfl
  have r1 := cell_of_at hb (i := 1) rfl
  have r2 := cell_of_at hb (i := 2) rfl
  have r3 := cell_of_at hb (i := 3) rfl
  have r4 := cell_of_at hb (i := 4) rfl
  have r5 := cell_of_at hb (i := 5) rfl
  have HF := Lib.hid ((((Fresh.refl w).alloc (.cells #[.string x1, .string x2, .string x3, .int .u8 x4] 154)).alloc (.cells #[.string x1, .string x2, .string nsDef, .int .u8 x4, .int .u16 30, .slice (some ⟨w.heap.size + 1 + 1, 0, none⟩) 1 1] 158)).alloc (.cells #[.string mainB, .string x3] 160))
  clear hb hown
  dsimp only [mainB, nsDef] at *
  go_enter Tryz.func72, Tryz.ntmps72
  go_wp2
  refine bodyPost_ret (v := .agg #[.string x1, .string x2, .string nsDef, .int .u8 x4, .int .u16 30, .slice (some ⟨w.heap.size + 1 + 1, 0, none⟩) 1 1]) (by simp [results, Tryz.results72, go_sem, nsDef, *]) rfl ⟨⟨up1 ⟨x1, x2, x3, x4⟩, some ⟨w.heap.size + 1 + 1, 0, none⟩, 1⟩, rfl, rfl, ?_, HF.out⟩
  exact World.ownsRow.mono HOWN.out (by omega)
end Go.Proofs.YtldncgelghcjeaaGreatDoor.K

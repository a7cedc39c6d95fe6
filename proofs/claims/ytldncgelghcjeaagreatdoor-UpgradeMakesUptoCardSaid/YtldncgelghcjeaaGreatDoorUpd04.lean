/-
  Lists of pods made of others, by package upgrade. (printed by geneach3.py.txt)
  Few pods, and short texts: what bosunlaw18.Small says of any state that came in, its sum as the machine has it.
  Are two states of version 1 alike? (by what they hold)
  Are two states of version 2 alike, by the document? (printed by genrsame2.py.txt)
  States of version 2, by what they hold alone: the contracts of the law's and of the document's words.
-/
import Derived.Test.YtldncgelghcjeaaGreatDoorUpd03
import Derived.Test.YtldncgelghcjeaaGreatDoorCat05
import Derived.Deep.QuietTactic
import Derived.BigQuiet
import Derived.Test.YtldncgelghcjeaaGreatDoorUpd01
import Derived.Test.YtldncgelghcjeaaGreatDoorCat06
set_option linter.unusedSimpArgs false
set_option linter.unusedVariables false
namespace Go.Proofs.YtldncgelghcjeaaGreatDoor.K
open Go.ChangeShapes Go.WideShapes Go.ChangeAt Go.RowKit
set_option maxRecDepth 100000

theorem m3s_snoc1 (l : List M3) (x : M3) : m3s (l ++ [x]) = m3s l ++ [.string x.file, .string x.m.name, .string x.m.ns, .int .i64 x.m.restart, .int .i64 x.m.grace, .bool x.m.host, .slice x.m.a x.m.cs.length x.m.cap] := m3s_snoc l x
set_option maxHeartbeats 4000000 in
theorem eachA_any (a : Option Addr) (l : List P1) (c : Nat) (w : World) (h : RowAt w a (p1s l)) (hl : l.length ≤ 4000000) :
    Calls Tryz.prog 71 #[.slice a l.length c, .func (.func 72) #[] #[]] w fun e w' => ∃ o cp, ∃ D : List M2, e = .returned (.slice o l.length cp) ∧ D.length = l.length ∧ pods2 D = l.map (fun x => up1 x) ∧ w'.ownsRow w.heap.size 158 6 (.slice o l.length cp) l.length (m2s D) ∧ (∀ x ∈ D, x.OwnC w.heap.size w') ∧ Fresh w w' := by
  have HROW := Lib.hid h
  obtain ⟨i0, hi, hz0, hz1, hz2⟩ := info_parts infoUP2
  clear h
  go_enter Tryz.func71, Tryz.ntmps71
  go_wp2
  go_loopw [5, 10] (fun a5 a10 wr => ∃ (k : Nat) (o : Option Addr) (cp : Nat) (D : List M2), a10 = .int .i64 (k : Int) ∧ a5 = .slice o k cp ∧ k ≤ l.length ∧ Hid (D.length = k) ∧ Hid (pods2 D = (l.take k).map (fun x => up1 x)) ∧ Hid (wr.ownsRow w.heap.size 158 6 (.slice o k cp) k (m2s D)) ∧ Hid (∀ x ∈ D, x.OwnC w.heap.size wr) ∧ Hid (Fresh w wr)) (fun _ a10 _ => l.length - (intOf a10).toNat)
  case atStart => exact ⟨0, none, 0, [], rfl, rfl, Nat.zero_le _, rfl, rfl, World.ownsRow_nil _ _ _ _, (fun x hx => absurd hx List.not_mem_nil), Fresh.refl _⟩
  case round =>
    obtain ⟨k, o, cp, D, rfl, rfl, hk, HDL, HDP, HOW, HDO, HF⟩ := hrel
    by_cases hlt : k < l.length
    · obtain ⟨g, o1, rfl, hc⟩ := p1_form (HROW.out.move HF.out) hlt
      obtain ⟨c0, c1, c2, c3⟩ := hc k hlt
      have HTK : Hid ((l.take (k + 1)).map (fun x => up1 x) = (l.take k).map (fun x => up1 x) ++ [(fun x => up1 x) l[k]]) := by rw [Hid, List.take_succ_eq_append_getElem hlt, List.map_append, List.map_cons, List.map_nil]
      have HM : Hid (l[k] ∈ l) := List.getElem_mem hlt
      clear hc
      generalize l[k] = x at *
      obtain ⟨x1, x2, x3, x4⟩ := x
      dsimp only [P1.val] at *
      have HF0 := Lib.hid ((Fresh.refl wr).alloc (.cells #[.string x1, .string x2, .string x3, .int .u8 x4] 154))
      have HC1 := Lib.hid (two1_any ⟨x1, x2, x3, x4⟩ (wr.alloc (.cells #[.string x1, .string x2, .string x3, .int .u8 x4] 154)))
      dsimp only [P1.val] at HC1
      clear HM
      go_wp2_with (fail)
      all_goals try (exfalso; omega)
      refine HC1.out.mono ?_
      rintro e w5 ⟨y, rfl, hyp, hyo, hf⟩
      have HFX := Lib.hid (HF0.out.trans hf)
      have HO := Lib.hid (own_fresh HOW.out HFX.out)
      have HF5 := Lib.hid (HF.out.trans HFX.out)
      have HW5 : Hid (w.heap.size ≤ w5.heap.size) := HF5.out.size
      have HYP := Lib.hid hyp
      have HYO : Hid (y.OwnC w.heap.size w5) := hyo.mono (HF.out.trans HF0.out).size
      have HDO5 : Hid (∀ x ∈ D, x.OwnC w.heap.size w5) := fun x hx => (HDO.out x hx).fresh HFX.out
      clear hf hyp hyo HC1 HF0 HFX HDO
      have HN := Lib.hid (news7 w5 158 [.string y.p.file, .string y.p.name, .string y.p.ns, .int .u8 y.p.r, .int .u16 y.p.g, .slice y.a y.p.cs.length y.c])
      dsimp only [M2.val] at *
      go_wp2_with (at_builtin; refine Hid.out ?_)
      refine Lib.hid ?_
      refine wpList_append_own _ rfl _ _ 64 rfl w.heap.size 158 i0 (.agg #[.string ⟨#[]⟩, .string ⟨#[]⟩, .string ⟨#[]⟩, .int .u8 0, .int .u16 0, .slice none 0 0]) 6 80 Tryz.underlying64 hi hz0 hz1 hz2 rfl (by decide) _ k _ rfl (World.ownsRow.alloc HO.out _) ⟨w5.heap.size, 0, none⟩ 1 1 [.string y.p.file, .string y.p.name, .string y.p.ns, .int .u8 y.p.r, .int .u16 y.p.g, .slice y.a y.p.cs.length y.c] rfl rfl HN.out (by simp [Value.oneCell']) (by unfold maxLen; omega) (by omega) (by rw [World.size_alloc]; have := HW5.out; omega) ?_
      intro v' w6 hown' hgrow _
      obtain ⟨g', cap', rfl⟩ := ownsRow_succ hown'
      have HFR := Lib.hid ((HF5.out.alloc _).grown hgrow (fun g e => (World.ownsRow.lt HO.out g e).1))
      have HOWN := Lib.hid hown'
      have HYO6 : Hid (y.OwnC w.heap.size w6) := (HYO.out.fresh ((Fresh.refl w5).alloc _)).grown (World.ownsRow.alloc HO.out _) (by decide) hgrow
      have HDO6 : Hid (∀ x ∈ D, x.OwnC w.heap.size w6) := fun x hx => ((HDO5.out x hx).fresh ((Fresh.refl w5).alloc _)).grown (World.ownsRow.alloc HO.out _) (by decide) hgrow
      clear hown' hgrow HYO HDO5
      go_wp2
      go_roundw
      case rel =>
        refine ⟨k + 1, some ⟨g', 0, none⟩, cap', D ++ [y], by simp, rfl, by omega, ?_, ?_, ?_, ?_, HFR.out⟩
        · rw [Hid, List.length_append, HDL.out]; rfl
        · rw [Hid, pods2_snoc, HDP.out, HTK.out, HYP.out]
        · rw [m2s_snoc]; exact HOWN.out
        · intro x hx
          rcases List.mem_append.1 hx with hx | hx
          · exact HDO6.out x hx
          · obtain rfl := List.mem_singleton.1 hx
            exact HYO6.out
      case measure => simp [intOf]; omega
    · obtain rfl : k = l.length := by omega
      go_wp2
      all_goals try (exfalso; omega)
      go_ret
      refine ⟨o, cp, D, rfl, HDL.out, ?_, HOW.out, HDO.out, HF.out⟩
      have := HDP.out
      rw [List.take_length] at this
      exact this
set_option maxHeartbeats 4000000 in
theorem eachB_any (a : Option Addr) (l : List M2) (c : Nat) (w : World) (b : Nat) (h : RowAt w a (m2s l)) (hl : l.length ≤ 4000000) (hj : ∀ x ∈ l, x.In w) (hc : ∀ x ∈ l, x.p.cs.length ≤ 4000000) (hn : ∀ x ∈ l, x.p.Num) (hb : w.cell? ⟨b, 0, none⟩ = some (.func (.func 73) #[] #[])) :
    Calls Tryz.prog 74 #[.slice a l.length c, .func (.func 75) #[] #[.pointer (some ⟨b, 0, none⟩)]] w fun e w' => ∃ o cp, ∃ D : List M3, e = .returned (.slice o l.length cp) ∧ D.length = l.length ∧ pods3 D = l.map (fun x => up2 x.p) ∧ w'.ownsRow w.heap.size 93 7 (.slice o l.length cp) l.length (m3s D) ∧ (∀ x ∈ D, x.OwnC w.heap.size w') ∧ Fresh w w' := by
  have HROW := Lib.hid h
  have HHJ := Lib.hid hj
  have HHC := Lib.hid hc
  have HHN := Lib.hid hn
  have HHB := Lib.hid hb
  obtain ⟨i0, hi, hz0, hz1, hz2⟩ := info_parts infoUP3
  clear h hj hc hn hb
  go_enter Tryz.func74, Tryz.ntmps74
  go_wp2
  go_loopw [5, 10] (fun a5 a10 wr => ∃ (k : Nat) (o : Option Addr) (cp : Nat) (D : List M3), a10 = .int .i64 (k : Int) ∧ a5 = .slice o k cp ∧ k ≤ l.length ∧ Hid (D.length = k) ∧ Hid (pods3 D = (l.take k).map (fun x => up2 x.p)) ∧ Hid (wr.ownsRow w.heap.size 93 7 (.slice o k cp) k (m3s D)) ∧ Hid (∀ x ∈ D, x.OwnC w.heap.size wr) ∧ Hid (Fresh w wr)) (fun _ a10 _ => l.length - (intOf a10).toNat)
  case atStart => exact ⟨0, none, 0, [], rfl, rfl, Nat.zero_le _, rfl, rfl, World.ownsRow_nil _ _ _ _, (fun x hx => absurd hx List.not_mem_nil), Fresh.refl _⟩
  case round =>
    obtain ⟨k, o, cp, D, rfl, rfl, hk, HDL, HDP, HOW, HDO, HF⟩ := hrel
    by_cases hlt : k < l.length
    · obtain ⟨g, o1, rfl, hc⟩ := m2_form (HROW.out.move HF.out) hlt
      obtain ⟨c0, c1, c2, c3, c4, c5⟩ := hc k hlt
      have HTK : Hid ((l.take (k + 1)).map (fun x => up2 x.p) = (l.take k).map (fun x => up2 x.p) ++ [(fun x => up2 x.p) l[k]]) := by rw [Hid, List.take_succ_eq_append_getElem hlt, List.map_append, List.map_cons, List.map_nil]
      have HM : Hid (l[k] ∈ l) := List.getElem_mem hlt
      clear hc
      generalize l[k] = x at *
      have FHJ := Lib.hid (HHJ.out x HM.out)
      have FHC := Lib.hid (HHC.out x HM.out)
      have FHN := Lib.hid (HHN.out x HM.out)
      obtain ⟨⟨x1, x2, x3, x4, x5, x6⟩, x7, x8⟩ := x
      dsimp only [M2.val] at *
      have HF0 := Lib.hid ((Fresh.refl wr).alloc (.cells #[.string x1, .string x2, .string x3, .int .u8 x4, .int .u16 x5, .slice x7 x6.length x8] 158))
      have HC1 := Lib.hid (three2_any ⟨⟨x1, x2, x3, x4, x5, x6⟩, x7, x8⟩ b (wr.alloc (.cells #[.string x1, .string x2, .string x3, .int .u8 x4, .int .u16 x5, .slice x7 x6.length x8] 158)) (FHJ.out.move (HF.out.trans HF0.out)) FHC.out FHN.out ((HF.out.trans HF0.out).cell HHB.out))
      dsimp only [M2.val] at HC1
      clear HM FHJ FHC FHN
      go_wp2_with (fail)
      all_goals try (exfalso; omega)
      refine HC1.out.mono ?_
      rintro e w5 ⟨y, rfl, hyp, hyo, hf⟩
      have HFX := Lib.hid (HF0.out.trans hf)
      have HO := Lib.hid (own_fresh HOW.out HFX.out)
      have HF5 := Lib.hid (HF.out.trans HFX.out)
      have HW5 : Hid (w.heap.size ≤ w5.heap.size) := HF5.out.size
      have HYP := Lib.hid hyp
      have HYO : Hid (y.OwnC w.heap.size w5) := hyo.mono (HF.out.trans HF0.out).size
      have HDO5 : Hid (∀ x ∈ D, x.OwnC w.heap.size w5) := fun x hx => (HDO.out x hx).fresh HFX.out
      clear hf hyp hyo HC1 HF0 HFX HDO
      have HN := Lib.hid (news7 w5 93 [.string y.file, .string y.m.name, .string y.m.ns, .int .i64 y.m.restart, .int .i64 y.m.grace, .bool y.m.host, .slice y.m.a y.m.cs.length y.m.cap])
      dsimp only [M3.fl] at *
      go_wp2_with (at_builtin; refine Hid.out ?_)
      refine Lib.hid ?_
      refine wpList_append_own _ rfl _ _ 23 rfl w.heap.size 93 i0 (.agg #[.string ⟨#[]⟩, .string ⟨#[]⟩, .string ⟨#[]⟩, .int .i64 0, .int .i64 0, .bool false, .slice none 0 0]) 7 96 Tryz.underlying23 hi hz0 hz1 hz2 rfl (by decide) _ k _ rfl (World.ownsRow.alloc HO.out _) ⟨w5.heap.size, 0, none⟩ 1 1 [.string y.file, .string y.m.name, .string y.m.ns, .int .i64 y.m.restart, .int .i64 y.m.grace, .bool y.m.host, .slice y.m.a y.m.cs.length y.m.cap] rfl rfl HN.out (by simp [Value.oneCell']) (by unfold maxLen; omega) (by omega) (by rw [World.size_alloc]; have := HW5.out; omega) ?_
      intro v' w6 hown' hgrow _
      obtain ⟨g', cap', rfl⟩ := ownsRow_succ hown'
      have HFR := Lib.hid ((HF5.out.alloc _).grown hgrow (fun g e => (World.ownsRow.lt HO.out g e).1))
      have HOWN := Lib.hid hown'
      have HYO6 : Hid (y.OwnC w.heap.size w6) := (HYO.out.fresh ((Fresh.refl w5).alloc _)).grown (World.ownsRow.alloc HO.out _) (by decide) hgrow
      have HDO6 : Hid (∀ x ∈ D, x.OwnC w.heap.size w6) := fun x hx => ((HDO5.out x hx).fresh ((Fresh.refl w5).alloc _)).grown (World.ownsRow.alloc HO.out _) (by decide) hgrow
      clear hown' hgrow HYO HDO5
      go_wp2
      go_roundw
      case rel =>
        refine ⟨k + 1, some ⟨g', 0, none⟩, cap', D ++ [y], by simp, rfl, by omega, ?_, ?_, ?_, ?_, HFR.out⟩
        · rw [Hid, List.length_append, HDL.out]; rfl
        · rw [Hid, pods3_snoc, HDP.out, HTK.out, HYP.out]
        · rw [m3s_snoc1]; exact HOWN.out
        · intro x hx
          rcases List.mem_append.1 hx with hx | hx
          · exact HDO6.out x hx
          · obtain rfl := List.mem_singleton.1 hx
            exact HYO6.out
      case measure => simp [intOf]; omega
    · obtain rfl : k = l.length := by omega
      go_wp2
      all_goals try (exfalso; omega)
      go_ret
      refine ⟨o, cp, D, rfl, HDL.out, ?_, HOW.out, HDO.out, HF.out⟩
      have := HDP.out
      rw [List.take_length] at this
      exact this
set_option maxHeartbeats 4000000 in
theorem eachE_any (a : Option Addr) (l : List M3) (c : Nat) (w : World) (b : Nat) (h : RowAt w a (m3s l)) (hl : l.length ≤ 4000000) (hj : ∀ x ∈ l, x.m.At w) (hc : ∀ x ∈ l, x.m.cs.length ≤ 4000000) (hb : w.cell? ⟨b, 0, none⟩ = some (.func (.func 106) #[] #[])) :
    Calls Tryz.prog 107 #[.slice a l.length c, .func (.func 108) #[] #[.pointer (some ⟨b, 0, none⟩)]] w fun e w' => ∃ o cp, ∃ D : List M2, e = .returned (.slice o l.length cp) ∧ D.length = l.length ∧ pods2 D = l.map (fun x => dn x.p) ∧ w'.ownsRow w.heap.size 158 6 (.slice o l.length cp) l.length (m2s D) ∧ (∀ x ∈ D, x.OwnC w.heap.size w') ∧ Fresh w w' := by
  have HROW := Lib.hid h
  have HHJ := Lib.hid hj
  have HHC := Lib.hid hc
  have HHB := Lib.hid hb
  obtain ⟨i0, hi, hz0, hz1, hz2⟩ := info_parts infoUP2
  clear h hj hc hb
  go_enter Tryz.func107, Tryz.ntmps107
  go_wp2
  go_loopw [5, 10] (fun a5 a10 wr => ∃ (k : Nat) (o : Option Addr) (cp : Nat) (D : List M2), a10 = .int .i64 (k : Int) ∧ a5 = .slice o k cp ∧ k ≤ l.length ∧ Hid (D.length = k) ∧ Hid (pods2 D = (l.take k).map (fun x => dn x.p)) ∧ Hid (wr.ownsRow w.heap.size 158 6 (.slice o k cp) k (m2s D)) ∧ Hid (∀ x ∈ D, x.OwnC w.heap.size wr) ∧ Hid (Fresh w wr)) (fun _ a10 _ => l.length - (intOf a10).toNat)
  case atStart => exact ⟨0, none, 0, [], rfl, rfl, Nat.zero_le _, rfl, rfl, World.ownsRow_nil _ _ _ _, (fun x hx => absurd hx List.not_mem_nil), Fresh.refl _⟩
  case round =>
    obtain ⟨k, o, cp, D, rfl, rfl, hk, HDL, HDP, HOW, HDO, HF⟩ := hrel
    by_cases hlt : k < l.length
    · obtain ⟨g, o1, rfl, hc⟩ := m3_form (HROW.out.move HF.out) hlt
      obtain ⟨c0, c1, c2, c3, c4, c5, c6⟩ := hc k hlt
      have HTK : Hid ((l.take (k + 1)).map (fun x => dn x.p) = (l.take k).map (fun x => dn x.p) ++ [(fun x => dn x.p) l[k]]) := by rw [Hid, List.take_succ_eq_append_getElem hlt, List.map_append, List.map_cons, List.map_nil]
      have HM : Hid (l[k] ∈ l) := List.getElem_mem hlt
      clear hc
      generalize l[k] = x at *
      have FHJ := Lib.hid (HHJ.out x HM.out)
      have FHC := Lib.hid (HHC.out x HM.out)
      obtain ⟨x1, ⟨x2, x3, x4, x5, x6, x7, x8, x9⟩⟩ := x
      dsimp only [M3.fl] at *
      have HF0 := Lib.hid ((Fresh.refl wr).alloc (.cells #[.string x1, .string x2, .string x3, .int .i64 x4, .int .i64 x5, .bool x6, .slice x7 x9.length x8] 93))
      have HC1 := Lib.hid (old2_any ⟨x1, ⟨x2, x3, x4, x5, x6, x7, x8, x9⟩⟩ b (wr.alloc (.cells #[.string x1, .string x2, .string x3, .int .i64 x4, .int .i64 x5, .bool x6, .slice x7 x9.length x8] 93)) (FHJ.out.move (HF.out.trans HF0.out)) FHC.out ((HF.out.trans HF0.out).cell HHB.out))
      dsimp only [M3.fl] at HC1
      clear HM FHJ FHC
      go_wp2_with (fail)
      all_goals try (exfalso; omega)
      refine HC1.out.mono ?_
      rintro e w5 ⟨y, rfl, hyp, hyo, hf⟩
      have HFX := Lib.hid (HF0.out.trans hf)
      have HO := Lib.hid (own_fresh HOW.out HFX.out)
      have HF5 := Lib.hid (HF.out.trans HFX.out)
      have HW5 : Hid (w.heap.size ≤ w5.heap.size) := HF5.out.size
      have HYP := Lib.hid hyp
      have HYO : Hid (y.OwnC w.heap.size w5) := hyo.mono (HF.out.trans HF0.out).size
      have HDO5 : Hid (∀ x ∈ D, x.OwnC w.heap.size w5) := fun x hx => (HDO.out x hx).fresh HFX.out
      clear hf hyp hyo HC1 HF0 HFX HDO
      have HN := Lib.hid (news7 w5 158 [.string y.p.file, .string y.p.name, .string y.p.ns, .int .u8 y.p.r, .int .u16 y.p.g, .slice y.a y.p.cs.length y.c])
      dsimp only [M2.val] at *
      go_wp2_with (at_builtin; refine Hid.out ?_)
      refine Lib.hid ?_
      refine wpList_append_own _ rfl _ _ 64 rfl w.heap.size 158 i0 (.agg #[.string ⟨#[]⟩, .string ⟨#[]⟩, .string ⟨#[]⟩, .int .u8 0, .int .u16 0, .slice none 0 0]) 6 80 Tryz.underlying64 hi hz0 hz1 hz2 rfl (by decide) _ k _ rfl (World.ownsRow.alloc HO.out _) ⟨w5.heap.size, 0, none⟩ 1 1 [.string y.p.file, .string y.p.name, .string y.p.ns, .int .u8 y.p.r, .int .u16 y.p.g, .slice y.a y.p.cs.length y.c] rfl rfl HN.out (by simp [Value.oneCell']) (by unfold maxLen; omega) (by omega) (by rw [World.size_alloc]; have := HW5.out; omega) ?_
      intro v' w6 hown' hgrow _
      obtain ⟨g', cap', rfl⟩ := ownsRow_succ hown'
      have HFR := Lib.hid ((HF5.out.alloc _).grown hgrow (fun g e => (World.ownsRow.lt HO.out g e).1))
      have HOWN := Lib.hid hown'
      have HYO6 : Hid (y.OwnC w.heap.size w6) := (HYO.out.fresh ((Fresh.refl w5).alloc _)).grown (World.ownsRow.alloc HO.out _) (by decide) hgrow
      have HDO6 : Hid (∀ x ∈ D, x.OwnC w.heap.size w6) := fun x hx => ((HDO5.out x hx).fresh ((Fresh.refl w5).alloc _)).grown (World.ownsRow.alloc HO.out _) (by decide) hgrow
      clear hown' hgrow HYO HDO5
      go_wp2
      go_roundw
      case rel =>
        refine ⟨k + 1, some ⟨g', 0, none⟩, cap', D ++ [y], by simp, rfl, by omega, ?_, ?_, ?_, ?_, HFR.out⟩
        · rw [Hid, List.length_append, HDL.out]; rfl
        · rw [Hid, pods2_snoc, HDP.out, HTK.out, HYP.out]
        · rw [m2s_snoc]; exact HOWN.out
        · intro x hx
          rcases List.mem_append.1 hx with hx | hx
          · exact HDO6.out x hx
          · obtain rfl := List.mem_singleton.1 hx
            exact HYO6.out
      case measure => simp [intOf]; omega
    · obtain rfl : k = l.length := by omega
      go_wp2
      all_goals try (exfalso; omega)
      go_ret
      refine ⟨o, cp, D, rfl, HDL.out, ?_, HOW.out, HDO.out, HF.out⟩
      have := HDP.out
      rw [List.take_length] at this
      exact this
end Go.Proofs.YtldncgelghcjeaaGreatDoor.K
namespace Go.Proofs.YtldncgelghcjeaaGreatDoor.K
open Go.ChangeShapes Go.WideShapes Go.ChangeAt Go.RowKit
set_option maxRecDepth 100000

def C2.w (c : C2) : Nat := 1 + c.name.size + c.image.size
def P2.w (p : P2) : Nat := 1 + p.file.size + p.name.size + p.ns.size
def cW : Int → List C2 → Int
  | n, [] => n
  | n, c :: l => cW (wrap64 (n + (c.w : Int))) l
def smB : Int → List P2 → Bool
  | _, [] => true
  | n, p :: l => if 20000 < cW (wrap64 (n + (p.w : Int))) p.cs then false else smB (cW (wrap64 (n + (p.w : Int))) p.cs) l
theorem cW_drop {l : List C2} {k : Nat} (h : k < l.length) (n : Int) : cW n (l.drop k) = cW (wrap64 (n + (l[k].w : Int))) (l.drop (k + 1)) := by
  rw [List.drop_eq_getElem_cons h, cW]
theorem smB_drop {l : List P2} {k : Nat} (h : k < l.length) (n : Int) : smB n (l.drop k) = if 20000 < cW (wrap64 (n + (l[k].w : Int))) l[k].cs then false else smB (cW (wrap64 (n + (l[k].w : Int))) l[k].cs) (l.drop (k + 1)) := by
  rw [List.drop_eq_getElem_cons h, smB]
/-! ### where nothing is too great for the machine's sum -/
def csW (l : List C2) : Nat := (l.map C2.w).sum
theorem wrap_nat {n : Nat} (h : n ≤ 4611686018427387904) : wrap64 ((n : Nat) : Int) = (n : Int) := by unfold wrap64; omega
theorem cW_nat : ∀ (l : List C2) (n : Nat), n + csW l ≤ 4611686018427387904 → cW (n : Int) l = ((n + csW l : Nat) : Int)
  | [], n, _ => by simp [cW, csW]
  | c :: l, n, h => by
    have e : csW (c :: l) = c.w + csW l := by simp [csW]
    rw [e] at h ⊢
    rw [cW, show (n : Int) + (c.w : Int) = ((n + c.w : Nat) : Int) from by omega, wrap_nat (by omega), cW_nat l (n + c.w) (by omega), Nat.add_assoc]
theorem csW_mem : ∀ (l : List C2), l.length ≤ csW l ∧ ∀ c ∈ l, c.name.size ≤ csW l ∧ c.image.size ≤ csW l
  | [] => by simp [csW]
  | c :: l => by
    have e : csW (c :: l) = c.w + csW l := by simp [csW]
    obtain ⟨h1, h2⟩ := csW_mem l
    rw [e, List.length_cons]
    have hw : c.w = 1 + c.name.size + c.image.size := rfl
    refine ⟨by omega, fun d hd => ?_⟩
    rcases List.mem_cons.1 hd with rfl | hd
    · omega
    · have := h2 d hd; omega
structure P2.Short (p : P2) : Prop where
  file : p.file.size ≤ 20000
  name : p.name.size ≤ 20000
  ns : p.ns.size ≤ 20000
  len : p.cs.length ≤ 20000
  cs : ∀ c ∈ p.cs, c.name.size ≤ 20000 ∧ c.image.size ≤ 20000
theorem smB_short : ∀ (l : List P2) (n : Nat), n ≤ 20000 → (∀ p ∈ l, p.w + csW p.cs ≤ 2305843009213693952) → smB (n : Int) l = true → l.length + n ≤ 20000 ∧ ∀ p ∈ l, p.Short
  | [], n, hn, _, _ => ⟨by simpa using hn, by simp⟩
  | p :: l, n, hn, hb, h => by
    have hp := hb p List.mem_cons_self
    have hw : p.w = 1 + p.file.size + p.name.size + p.ns.size := rfl
    have e : cW (wrap64 ((n : Int) + (p.w : Int))) p.cs = ((n + p.w + csW p.cs : Nat) : Int) := by
      rw [show (n : Int) + (p.w : Int) = ((n + p.w : Nat) : Int) from by omega, wrap_nat (by omega), cW_nat p.cs (n + p.w) (by omega)]
    rw [smB, e] at h
    split at h
    · simp at h
    · rename_i h1
      obtain ⟨h2, h3⟩ := smB_short l _ (by omega) (fun q hq => hb q (List.mem_cons_of_mem _ hq)) h
      obtain ⟨h4, h5⟩ := csW_mem p.cs
      refine ⟨by rw [List.length_cons]; omega, fun q hq => ?_⟩
      rcases List.mem_cons.1 hq with rfl | hq
      · exact ⟨by omega, by omega, by omega, by omega, fun c hc => by have := h5 c hc; omega⟩
      · exact h3 q hq
set_option maxHeartbeats 4000000 in
theorem small2_any (seq : Int) (a : Option Addr) (l : List M2) (c : Nat) (w : World) (h : Row2 w a l) (hf : ∀ m ∈ l, m.p.Fit 140737488355328) (hl : l.length ≤ maxLen) (hcl : ∀ m ∈ l, m.p.cs.length ≤ maxLen) :
    Calls Tryz.prog 25 #[st2 seq a l.length c] w fun e w' => e = .returned (.bool (smB 0 (pods2 l))) ∧ Fresh w w' := by
  unfold maxLen at hl
  have HROW := Lib.hid h
  have HFT := Lib.hid hf
  have HCL := Lib.hid hcl
  have HF0 := Lib.hid ((Fresh.refl w).alloc (.cells #[.int .u64 seq, .slice a l.length c] 66))
  have HC : Hid (smB 0 (pods2 l) = smB 0 ((pods2 l).drop 0)) := rfl
  have hpl : (pods2 l).length = l.length := by simp [pods2]
  dsimp only [st2]
  clear h hf hcl
  generalize smB 0 (pods2 l) = E at *
  go_enter Tryz.func25, Tryz.ntmps25
  go_wp2
  generalize w.alloc (.cells #[.int .u64 seq, .slice a l.length c] 66) = W0 at *
  go_loopw [3, 11] (fun a3 a11 wr => ∃ (k : Nat) (n : Int), a11 = .int .i64 (k : Int) ∧ a3 = .int .i64 n ∧ k ≤ l.length ∧ Hid (E = smB n ((pods2 l).drop k)) ∧ Hid (Fresh W0 wr)) (fun _ a11 _ => l.length - (intOf a11).toNat)
  case atStart => exact ⟨0, 0, rfl, rfl, Nat.zero_le _, HC.out, Fresh.refl _⟩
  case round =>
  obtain ⟨k, n, rfl, rfl, hk, HE, HF⟩ := hrel
  by_cases hlt : k < l.length
  case pos =>
    have hR := (HROW.out.move HF0.out).move HF.out
    obtain ⟨g, o1, rfl, hc⟩ := m2_form hR.row hlt
    obtain ⟨c0, c1, c2, c3, c4, c5⟩ := hc k hlt
    have HIN := Lib.hid (hR.ins _ (List.getElem_mem hlt)).1
    have HFI := Lib.hid (HFT.out _ (List.getElem_mem hlt))
    have HNL := Lib.hid (HCL.out _ (List.getElem_mem hlt))
    have hkp : k < (pods2 l).length := by omega
    have hpk : (pods2 l)[k] = l[k].p := by simp [pods2]
    have HSTEP : Hid (E = if 20000 < cW (wrap64 (n + (l[k].p.w : Int))) l[k].p.cs then false else smB (cW (wrap64 (n + (l[k].p.w : Int))) l[k].p.cs) ((pods2 l).drop (k + 1))) := by
      have := HE.out.trans (smB_drop hkp n)
      rw [hpk] at this; exact this
    clear hc hR hkp hpk HE
    generalize l[k] = m at *
    obtain ⟨⟨file, name, ns, r, gr, cs⟩, ca, cc⟩ := m
    have y1 : file.size ≤ 140737488355328 := HFI.out.file
    have y2 : name.size ≤ 140737488355328 := HFI.out.name
    have y3 : ns.size ≤ 140737488355328 := HFI.out.ns
    have y4 : cs.length ≤ 9223372036854775807 := HNL.out
    have HFC : Hid (∀ x ∈ cs, x.name.size ≤ 140737488355328 ∧ x.image.size ≤ 140737488355328) := HFI.out.cs
    have HIN : Hid (RowAt wr ca (c2s cs)) := HIN.out
    have HW : Hid (P2.w ⟨file, name, ns, r, gr, cs⟩ = 1 + file.size + name.size + ns.size) := rfl
    have HSTEP : Hid (E = if 20000 < cW (wrap64 (n + (P2.w ⟨file, name, ns, r, gr, cs⟩ : Int))) cs then false else smB (cW (wrap64 (n + (P2.w ⟨file, name, ns, r, gr, cs⟩ : Int))) cs) ((pods2 l).drop (k + 1))) := HSTEP.out
    have hadd : n + (1 + (file.size : Int) + (name.size : Int) + (ns.size : Int)) = n + (P2.w ⟨file, name, ns, r, gr, cs⟩ : Int) := by rw [HW.out]; omega
    dsimp only at *
    have HF1 := Lib.hid ((Fresh.refl wr).alloc (.cells #[.string file, .string name, .string ns, .int .u8 r, .int .u16 gr, .slice ca cs.length cc] 158))
    generalize n + (P2.w ⟨file, name, ns, r, gr, cs⟩ : Int) = s1 at *
    clear HFI HNL HW
    obtain ⟨n1, hn1⟩ : ∃ n1, n1 = wrap64 s1 := ⟨_, rfl⟩
    have HN1 := Lib.hid hn1
    rw [← hn1] at HSTEP
    clear hn1
    go_wp2
    all_goals try (exfalso; omega)
    rw [← HN1.out]
    clear c0 c1 c2 c3 c4 c5 hadd HN1
    generalize wr.alloc (.cells #[.string file, .string name, .string ns, .int .u8 r, .int .u16 gr, .slice ca cs.length cc] 158) = V0 at *
    have HIN := Lib.hid (HIN.out.move HF1.out)
    have HF2 := Lib.hid (HF.out.trans HF1.out)
    generalize hT : cW n1 cs = T at *
    have HT : Hid (T = cW n1 (cs.drop 0)) := hT.symm
    clear hT HF HF1
    go_loopw [3, 32] (fun a3 a32 wv => ∃ (j : Nat) (n2 : Int), a32 = .int .i64 (j : Int) ∧ a3 = .int .i64 n2 ∧ j ≤ cs.length ∧ Hid (T = cW n2 (cs.drop j)) ∧ Hid (Fresh V0 wv)) (fun _ a32 _ => cs.length - (intOf a32).toNat)
    case atStart => exact ⟨0, n1, rfl, rfl, Nat.zero_le _, HT.out, Fresh.refl _⟩
    case round =>
    clear HT
    obtain ⟨j, n2, rfl, rfl, hj, HEJ, HFJ⟩ := hrel
    by_cases hjlt : j < cs.length
    case pos =>
      obtain ⟨gc, oc, rfl, hcc⟩ := c2_form (HIN.out.move HFJ.out) hjlt
      obtain ⟨l0, l1⟩ := hcc j hjlt
      have hx := HFC.out _ (List.getElem_mem hjlt)
      have HST := Lib.hid (HEJ.out.trans (cW_drop hjlt n2))
      clear hcc HEJ
      generalize cs[j] = x at *
      obtain ⟨x1, x2⟩ := x
      have HW : Hid (C2.w ⟨x1, x2⟩ = 1 + x1.size + x2.size) := rfl
      have hadd : n2 + (1 + (x1.size : Int) + (x2.size : Int)) = n2 + (C2.w ⟨x1, x2⟩ : Int) := by rw [HW.out]; omega
      obtain ⟨z1, z2⟩ := hx
      dsimp only at *
      have HFX := Lib.hid (HFJ.out.alloc (.cells #[.string x1, .string x2] 160))
      generalize n2 + (C2.w ⟨x1, x2⟩ : Int) = s3 at *
      clear HW
      go_wp2
      all_goals try (exfalso; omega)
      go_roundw
      case rel => exact ⟨j + 1, wrap64 s3, by simp, rfl, by omega, HST.out, HFX.out⟩
      case measure => simp [intOf]; omega
    case neg =>
      obtain rfl : j = cs.length := by omega
      have HT : Hid (T = n2) := by rw [Hid, HEJ.out, List.drop_of_length_le (Nat.le_refl _)]; rfl
      clear HEJ
      have hT := HT.out
      subst hT
      by_cases h2 : 20000 < T
      · have HR : Hid (E = false) := by rw [Hid, HSTEP.out, if_pos h2]
        clear HSTEP
        go_wp2
        all_goals try (exfalso; omega)
        go_ret
        exact ⟨ret_bool HR.out.symm, (HF0.out.trans HF2.out).trans HFJ.out⟩
      · have HN : Hid (E = smB T ((pods2 l).drop (k + 1))) := by rw [Hid, HSTEP.out, if_neg h2]
        clear HSTEP
        go_wp2
        all_goals try (exfalso; omega)
        go_roundw
        case rel => exact ⟨k + 1, T, by simp, rfl, by omega, HN.out, HF2.out.trans HFJ.out⟩
        case measure => simp [intOf]; omega
  case neg =>
    obtain rfl : k = l.length := by omega
    have HR : Hid (E = true) := by rw [Hid, HE.out, List.drop_of_length_le (by omega)]; rfl
    go_wp2
    all_goals try (exfalso; omega)
    go_ret
    exact ⟨ret_bool HR.out.symm, HF0.out.trans HF.out⟩
end Go.Proofs.YtldncgelghcjeaaGreatDoor.K
namespace Go.Proofs.YtldncgelghcjeaaGreatDoor.K
open Go.ChangeShapes Go.WideShapes Go.ChangeAt Go.RowKit
def same1 (s t : Int) (l m : List P1) : Bool := decide (s = t) && eqL l m
end Go.Proofs.YtldncgelghcjeaaGreatDoor.K
namespace Go.Proofs.YtldncgelghcjeaaGreatDoor.K
open Go.ChangeShapes Go.WideShapes Go.ChangeAt Go.RowKit
set_option maxRecDepth 100000

def same2 (s t : Int) (l m : List P2) : Bool := decide (s = t) && eqP l m
theorem set6_cell {w : World} {g i z : Nat} {x u0 u1 u2 u3 u4 u5 : Value} (h : w.cell? ⟨g, i, none⟩ = some x) (hne : g ≠ z) :
    ((((((w.setCell ⟨z, 0, none⟩ u0).setCell ⟨z, 1, none⟩ u1).setCell ⟨z, 2, none⟩ u2).setCell ⟨z, 3, none⟩ u3).setCell ⟨z, 4, none⟩ u4).setCell ⟨z, 5, none⟩ u5).cell? ⟨g, i, none⟩ = some x :=
  cell_set_ne (cell_set_ne (cell_set_ne (cell_set_ne (cell_set_ne (cell_set_ne h hne) hne) hne) hne) hne) hne
theorem set6_at {w : World} {z t : Nat} {u0 u1 u2 u3 u4 u5 : Value} {c0 c1 c2 c3 c4 c5 : Value} (h : w.heap[z]? = some (.cells #[c0, c1, c2, c3, c4, c5] t)) :
    ((((((w.setCell ⟨z, 0, none⟩ u0).setCell ⟨z, 1, none⟩ u1).setCell ⟨z, 2, none⟩ u2).setCell ⟨z, 3, none⟩ u3).setCell ⟨z, 4, none⟩ u4).setCell ⟨z, 5, none⟩ u5).heap[z]? = some (.cells #[u0, u1, u2, u3, u4, u5] t) :=
  at_set (at_set (at_set (at_set (at_set (at_set h 0 _) 1 _) 2 _) 3 _) 4 _) 5 _
theorem set6_off {w : World} {g z : Nat} {o : Obj} {u0 u1 u2 u3 u4 u5 : Value} (h : w.heap[g]? = some o) (hne : g ≠ z) :
    ((((((w.setCell ⟨z, 0, none⟩ u0).setCell ⟨z, 1, none⟩ u1).setCell ⟨z, 2, none⟩ u2).setCell ⟨z, 3, none⟩ u3).setCell ⟨z, 4, none⟩ u4).setCell ⟨z, 5, none⟩ u5).heap[g]? = some o :=
  at_off (at_off (at_off (at_off (at_off (at_off h hne _) hne _) hne _) hne _) hne _) hne _
theorem set6_fresh {w W : World} {z : Nat} {u0 u1 u2 u3 u4 u5 : Value} (f : Fresh w W) (hz : w.heap.size ≤ z) :
    Fresh w ((((((W.setCell ⟨z, 0, none⟩ u0).setCell ⟨z, 1, none⟩ u1).setCell ⟨z, 2, none⟩ u2).setCell ⟨z, 3, none⟩ u3).setCell ⟨z, 4, none⟩ u4).setCell ⟨z, 5, none⟩ u5) :=
  (((((f.setCell (p := ⟨z, 0, none⟩) hz _).setCell (p := ⟨z, 1, none⟩) hz _).setCell (p := ⟨z, 2, none⟩) hz _).setCell (p := ⟨z, 3, none⟩) hz _).setCell (p := ⟨z, 4, none⟩) hz _).setCell (p := ⟨z, 5, none⟩) hz _
theorem eqC_one {x1 x2 y1 y2 : ByteArray} : C2.eqB ⟨x1, x2⟩ ⟨y1, y2⟩ = (decide (x1 = y1) && decide (x2 = y2)) := rfl
set_option maxHeartbeats 16000000 in
theorem rsame2_any (s t : Int) (l m : List M2) (a a' : Option Addr) (cap cap' : Nat) (w : World) (ha : Row2 w a l) (ha' : Row2 w a' m) (hl : l.length ≤ 4000000) (hcl : ∀ x ∈ l, x.p.cs.length ≤ 4000000) :
    Calls Tryz.prog 29 #[st2 s a l.length cap, st2 t a' m.length cap'] w fun e w' => e = .returned (.bool (same2 s t (pods2 l) (pods2 m))) ∧ Fresh w w' := by
  have HE : Hid (same2 s t (pods2 l) (pods2 m) = (decide (s = t) && eqP (pods2 l) (pods2 m))) := rfl
  have HX := Lib.hid (two_boxes w (.cells #[.int .u64 s, .slice a l.length cap] 75) (.cells #[.int .u64 t, .slice a' m.length cap'] 75))
  have HF0 := Lib.hid HX.out.2.2.1
  have HROW := Lib.hid (ha.move HF0.out)
  have HROW' := Lib.hid (ha'.move HF0.out)
  have HCL := Lib.hid hcl
  clear ha ha' hcl
  dsimp only [st2]
  generalize same2 s t (pods2 l) (pods2 m) = R at *
  by_cases hs : s = t
  case neg =>
    have HR : Hid (R = false) := by rw [Hid, HE.out, decide_eq_false hs]; rfl
    have e0 : (s == t) = false := by rw [beq_eq_false_iff_ne]; exact hs
    clear HE
    go_enter Tryz.func29, Tryz.ntmps29
    go_wp2
    go_ret
    exact ⟨ret_bool HR.out.symm, HF0.out⟩
  subst hs
  have HR0 : Hid (R = eqP (pods2 l) (pods2 m)) := by rw [Hid, HE.out]; simp
  clear HE
  have HPL : Hid ((pods2 l).length = l.length ∧ (pods2 m).length = m.length) := by simp [Hid, pods2]
  by_cases hlen : l.length = m.length
  case neg =>
    have HR : Hid (R = false) := by rw [Hid, HR0.out, eqP_len _ _ (by rw [HPL.out.1, HPL.out.2]; exact hlen)]
    have e0 : ((l.length : Int) == (m.length : Int)) = false := by rw [beq_eq_false_iff_ne]; omega
    go_enter Tryz.func29, Tryz.ntmps29
    go_wp2
    all_goals try (exfalso; omega)
    go_ret
    exact ⟨ret_bool HR.out.symm, HF0.out⟩
  have HN2 : Hid (m.length = l.length) := hlen.symm
  have hd2 := HN2.out
  rw [hd2] at HX HF0 HROW HROW' HPL ⊢
  clear hd2 hlen
  generalize hn : l.length = n at *
  have HNN := Lib.hid hn
  clear hn
  go_enter Tryz.func29, Tryz.ntmps29
  go_wp2
  all_goals try (exfalso; omega)
  generalize (w.alloc (.cells #[.int .u64 s, .slice a n cap] 75)).alloc (.cells #[.int .u64 s, .slice a' n cap'] 75) = W0 at *
  obtain ⟨b, hb⟩ : ∃ b, b = w.heap.size := ⟨_, rfl⟩
  rw [← hb] at HX ⊢
  clear hb
  go_loopw [5] (fun a5 wr => ∃ (k : Nat), a5 = .int .i64 (k : Int) ∧ k ≤ n ∧ Hid (R = eqP ((pods2 l).drop k) ((pods2 m).drop k)) ∧ Hid (Fresh W0 wr)) (fun a5 _ => n - (intOf a5).toNat)
  case atStart => exact ⟨0, rfl, Nat.zero_le _, HR0.out, Fresh.refl _⟩
  case round =>
  obtain ⟨k, rfl, hk, HE, HF⟩ := hrel
  obtain ⟨b0, b1, _⟩ := st2_box (HF.out.at HX.out.1)
  obtain ⟨d0, d1, _⟩ := st2_box (HF.out.at HX.out.2.1)
  by_cases hltn : k < n
  case pos =>
    have hlt : k < l.length := by rw [HNN.out]; exact hltn
    have hlt' : k < m.length := by rw [HN2.out]; exact hltn
    have hR := HROW.out.move HF.out
    have hR' := HROW'.out.move HF.out
    obtain ⟨g, o1, rfl, hc⟩ := m2_form hR.row hlt
    obtain ⟨g', o1', rfl, hc'⟩ := m2_form hR'.row hlt'
    obtain ⟨c0, c1, c2, c3, c4, c5⟩ := hc k hlt
    obtain ⟨v0, v1, v2, v3, v4, v5⟩ := hc' k hlt'
    have HIN := Lib.hid (hR.ins _ (List.getElem_mem hlt)).1
    have HIN' := Lib.hid (hR'.ins _ (List.getElem_mem hlt')).1
    have HNL := Lib.hid (HCL.out _ (List.getElem_mem hlt))
    have hkp : k < (pods2 l).length := by rw [HPL.out.1]; exact hltn
    have hkp' : k < (pods2 m).length := by rw [HPL.out.2]; exact hltn
    have hpk : (pods2 l)[k] = l[k].p := by simp [pods2]
    have hpk' : (pods2 m)[k] = m[k].p := by simp [pods2]
    have HST : Hid (R = (P2.eqB l[k].p m[k].p && eqP ((pods2 l).drop (k + 1)) ((pods2 m).drop (k + 1)))) := by
      have := HE.out.trans (eqP_drop hkp hkp')
      rw [hpk, hpk'] at this; exact this
    clear hc hc' hR hR' hkp hkp' hpk hpk' HE
    generalize l[k] = p at *
    generalize m[k] = q at *
    clear hlt hlt'
    obtain ⟨⟨x0, x1, x2, x3, x4, xs⟩, xa, xc⟩ := p
    obtain ⟨⟨y0, y1, y2, y3, y4, ys⟩, ya, yc⟩ := q
    have HIN : Hid (RowAt wr xa (c2s xs)) := HIN.out
    have HIN' : Hid (RowAt wr ya (c2s ys)) := HIN'.out
    have HNL : xs.length ≤ 4000000 := HNL.out
    have HEB : Hid (P2.eqB ⟨x0, x1, x2, x3, x4, xs⟩ ⟨y0, y1, y2, y3, y4, ys⟩ = (decide (x0 = y0) && (decide (x1 = y1) && (decide (x2 = y2) && (decide (x3 = y3) && (decide (x4 = y4) && eqC xs ys)))))) := rfl
    have HST : Hid (R = (P2.eqB ⟨x0, x1, x2, x3, x4, xs⟩ ⟨y0, y1, y2, y3, y4, ys⟩ && eqP ((pods2 l).drop (k + 1)) ((pods2 m).drop (k + 1)))) := HST.out
    dsimp only at *
    have i1 : (0 : Int) ≤ (k : Int) := by omega
    have i2 : (k : Int) < (n : Int) := by omega
    generalize P2.eqB ⟨x0, x1, x2, x3, x4, xs⟩ ⟨y0, y1, y2, y3, y4, ys⟩ = SC at *
    obtain ⟨RR, hRR⟩ : ∃ RR, RR = eqP ((pods2 l).drop (k + 1)) ((pods2 m).drop (k + 1)) := ⟨_, rfl⟩
    rw [← hRR] at HST
    have HRR := Lib.hid hRR
    have HLE : Hid (¬ xs.length = ys.length → eqC xs ys = false) := fun h => eqC_len xs ys h
    have hgl : g < wr.heap.size := World.block_lt_of_cell? wr _ c0
    have hgl' : g' < wr.heap.size := World.block_lt_of_cell? wr _ v0
    have hbl : b + 1 < wr.heap.size := World.block_lt_of_cell? wr _ d0
    clear hRR
    generalize hxl : xs.length = xl at *
    generalize hyl : ys.length = yl at *
    have HXL := Lib.hid hxl
    have HYL := Lib.hid hyl
    clear hxl hyl
    go_wp2_with (fail)
    go_region_held3 (fun w' => (w'.cell? ⟨b, 1, none⟩ = some (.slice (some ⟨g, o1, none⟩) n cap) ∧ w'.cell? ⟨b + 1, 1, none⟩ = some (.slice (some ⟨g', o1', none⟩) n cap')
      ∧ w'.cell? ⟨g, o1 + k * 6, none⟩ = some (.string x0) ∧ w'.cell? ⟨g, o1 + k * 6 + 1, none⟩ = some (.string x1) ∧ w'.cell? ⟨g, o1 + k * 6 + 2, none⟩ = some (.string x2) ∧ w'.cell? ⟨g, o1 + k * 6 + 3, none⟩ = some (.int .u8 x3) ∧ w'.cell? ⟨g, o1 + k * 6 + 4, none⟩ = some (.int .u16 x4) ∧ w'.cell? ⟨g, o1 + k * 6 + 5, none⟩ = some (.slice xa xl xc)
      ∧ w'.cell? ⟨g', o1' + k * 6, none⟩ = some (.string y0) ∧ w'.cell? ⟨g', o1' + k * 6 + 1, none⟩ = some (.string y1) ∧ w'.cell? ⟨g', o1' + k * 6 + 2, none⟩ = some (.string y2) ∧ w'.cell? ⟨g', o1' + k * 6 + 3, none⟩ = some (.int .u8 y3) ∧ w'.cell? ⟨g', o1' + k * 6 + 4, none⟩ = some (.int .u16 y4) ∧ w'.cell? ⟨g', o1' + k * 6 + 5, none⟩ = some (.slice ya yl yc)))
      (first | go_keep | (refine ⟨?_, ?_, ?_, ?_, ?_, ?_, ?_, ?_, ?_, ?_, ?_, ?_, ?_, ?_⟩ <;> exact set6_cell (by assumption) (by omega)))
      (fail)
    all_goals
      clear b0 b1 d0 d1 c0 c1 c2 c3 c4 c5 v0 v1 v2 v3 v4 v5 i1 i2 hgl hgl' hbl
      first
      | (obtain ⟨V, hV⟩ : ∃ V, V = ((wr.alloc (.cells #[.string x0, .string x1, .string x2, .int .u8 x3, .int .u16 x4, .slice xa xl xc] 164)).alloc (.cells #[.string y0, .string y1, .string y2, .int .u8 y3, .int .u16 y4, .slice ya yl yc] 164)).drew := ⟨_, rfl⟩
         rw [← hV]
         have HB3 := Lib.hid (two_boxes wr (.cells #[.string x0, .string x1, .string x2, .int .u8 x3, .int .u16 x4, .slice xa xl xc] 164) (.cells #[.string y0, .string y1, .string y2, .int .u8 y3, .int .u16 y4, .slice ya yl yc] 164))
         obtain ⟨zy, hzq⟩ : ∃ z, z = wr.heap.size + 1 := ⟨_, rfl⟩
         obtain ⟨zx, hzp⟩ : ∃ z, z = wr.heap.size := ⟨_, rfl⟩
         rw [← hzq]
         rw [← hzp]
         have HBX : Hid (V.heap[zx]? = some (.cells #[.string x0, .string x1, .string x2, .int .u8 x3, .int .u16 x4, .slice xa xl xc] 164) ∧ V.heap[zy]? = some (.cells #[.string y0, .string y1, .string y2, .int .u8 y3, .int .u16 y4, .slice ya yl yc] 164)) := by rw [hV, hzp, hzq]; exact ⟨HB3.out.1, HB3.out.2.1⟩
         have HV : Hid (Fresh wr V) := by rw [hV]; exact HB3.out.2.2.1.drew
         clear HB3 hV hzp hzq)
      | (obtain ⟨V, hV⟩ : ∃ V, V = ((wr.alloc (.cells #[.string y0, .string y1, .string y2, .int .u8 y3, .int .u16 y4, .slice ya yl yc] 164)).alloc (.cells #[.string x0, .string x1, .string x2, .int .u8 x3, .int .u16 x4, .slice xa xl xc] 164)).drew := ⟨_, rfl⟩
         rw [← hV]
         have HB3 := Lib.hid (two_boxes wr (.cells #[.string y0, .string y1, .string y2, .int .u8 y3, .int .u16 y4, .slice ya yl yc] 164) (.cells #[.string x0, .string x1, .string x2, .int .u8 x3, .int .u16 x4, .slice xa xl xc] 164))
         obtain ⟨zx, hzq⟩ : ∃ z, z = wr.heap.size + 1 := ⟨_, rfl⟩
         obtain ⟨zy, hzp⟩ : ∃ z, z = wr.heap.size := ⟨_, rfl⟩
         rw [← hzq]
         rw [← hzp]
         have HBX : Hid (V.heap[zx]? = some (.cells #[.string x0, .string x1, .string x2, .int .u8 x3, .int .u16 x4, .slice xa xl xc] 164) ∧ V.heap[zy]? = some (.cells #[.string y0, .string y1, .string y2, .int .u8 y3, .int .u16 y4, .slice ya yl yc] 164)) := by rw [hV, hzp, hzq]; exact ⟨HB3.out.2.1, HB3.out.1⟩
         have HV : Hid (Fresh wr V) := by rw [hV]; exact HB3.out.2.2.1.drew
         clear HB3 hV hzp hzq)
      have HFV := Lib.hid ((HF0.out.trans HF.out).trans HV.out)
      have HFW := Lib.hid (HF.out.trans HV.out)
      have a0 := cell_of_at HBX.out.1 (i := 0) rfl
      have a1 := cell_of_at HBX.out.1 (i := 1) rfl
      have a2 := cell_of_at HBX.out.1 (i := 2) rfl
      have a3 := cell_of_at HBX.out.1 (i := 3) rfl
      have a4 := cell_of_at HBX.out.1 (i := 4) rfl
      have a5 := cell_of_at HBX.out.1 (i := 5) rfl
      have b0 := cell_of_at HBX.out.2 (i := 0) rfl
      have b1 := cell_of_at HBX.out.2 (i := 1) rfl
      have b2 := cell_of_at HBX.out.2 (i := 2) rfl
      have b3 := cell_of_at HBX.out.2 (i := 3) rfl
      have b4 := cell_of_at HBX.out.2 (i := 4) rfl
      have b5 := cell_of_at HBX.out.2 (i := 5) rfl
      have HIN := Lib.hid (HIN.out.move HV.out)
      have HIN' := Lib.hid (HIN'.out.move HV.out)
      clear HV
      by_cases h0 : x0 = y0
      case neg =>
        have HR : Hid (R = false) := by rw [Hid, HST.out, HEB.out, decide_eq_false h0]; simp
        have e1 := tl_ne h0
        clear HEB HST
        go_wp2
        all_goals try (exfalso; omega)
        go_ret
        exact ⟨ret_bool HR.out.symm, HFV.out⟩
      subst h0
      by_cases h1 : x1 = y1
      case neg =>
        have HR : Hid (R = false) := by rw [Hid, HST.out, HEB.out, decide_eq_false h1]; simp
        have e1 := tl_ne h1
        clear HEB HST
        go_wp2
        all_goals try (exfalso; omega)
        go_ret
        exact ⟨ret_bool HR.out.symm, HFV.out⟩
      subst h1
      by_cases h2 : x2 = y2
      case neg =>
        have HR : Hid (R = false) := by rw [Hid, HST.out, HEB.out, decide_eq_false h2]; simp
        have e1 := tl_ne h2
        clear HEB HST
        go_wp2
        all_goals try (exfalso; omega)
        go_ret
        exact ⟨ret_bool HR.out.symm, HFV.out⟩
      subst h2
      by_cases h3 : x3 = y3
      case neg =>
        have HR : Hid (R = false) := by rw [Hid, HST.out, HEB.out, decide_eq_false h3]; simp
        have e1 : (x3 == y3) = false := by rw [beq_eq_false_iff_ne]; exact h3
        clear HEB HST
        go_wp2
        all_goals try (exfalso; omega)
        go_ret
        exact ⟨ret_bool HR.out.symm, HFV.out⟩
      subst h3
      by_cases h4 : x4 = y4
      case neg =>
        have HR : Hid (R = false) := by rw [Hid, HST.out, HEB.out, decide_eq_false h4]; simp
        have e1 : (x4 == y4) = false := by rw [beq_eq_false_iff_ne]; exact h4
        clear HEB HST
        go_wp2
        all_goals try (exfalso; omega)
        go_ret
        exact ⟨ret_bool HR.out.symm, HFV.out⟩
      subst h4
      by_cases h5 : xl = yl
      case neg =>
        have HR : Hid (R = false) := by rw [Hid, HST.out, HEB.out, HLE.out h5]; simp
        have e1 : ((xl : Int) == (yl : Int)) = false := by rw [beq_eq_false_iff_ne]; omega
        clear HEB h5 HST
        go_wp2
        all_goals try (exfalso; omega)
        go_ret
        exact ⟨ret_bool HR.out.symm, HFV.out⟩
      subst h5
      have HS2 : Hid (R = (eqC (xs.drop 0) (ys.drop 0) && RR)) := by rw [Hid, HST.out, HEB.out]; simp
      clear HST HEB HLE
      go_wp2
      all_goals try (exfalso; omega)
      clear a0 a1 a2 a3 a4 a5 b0 b1 b2 b3 b4 b5
      go_loopw [8] (fun a8 wv => ∃ (j : Nat), a8 = .int .i64 (j : Int) ∧ j ≤ xl ∧ Hid (R = (eqC (xs.drop j) (ys.drop j) && RR)) ∧ Hid (Fresh V wv)) (fun a8 _ => xl - (intOf a8).toNat)
      case atStart => exact ⟨0, rfl, Nat.zero_le _, HS2.out, Fresh.refl _⟩
      case round =>
      clear HS2
      obtain ⟨j, rfl, hj, HEJ, HF2⟩ := hrel
      have a5 := cell_of_at (HF2.out.at HBX.out.1) (i := 5) rfl
      have b5 := cell_of_at (HF2.out.at HBX.out.2) (i := 5) rfl
      by_cases hjlt : j < xl
      case pos =>
        have hj1 : j < xs.length := by rw [HXL.out]; exact hjlt
        have hj2 : j < ys.length := by rw [HYL.out]; exact hjlt
        obtain ⟨gc, oc, rfl, hcc⟩ := c2_form (HIN.out.move HF2.out) hj1
        obtain ⟨gd, od, rfl, hcd⟩ := c2_form (HIN'.out.move HF2.out) hj2
        obtain ⟨l0, l1⟩ := hcc j hj1
        obtain ⟨r0, r1⟩ := hcd j hj2
        have HS3 : Hid (R = ((C2.eqB xs[j] ys[j] && eqC (xs.drop (j + 1)) (ys.drop (j + 1))) && RR)) := by rw [Hid, HEJ.out, eqC_drop hj1 hj2]
        clear hcc hcd HEJ
        generalize xs[j] = cx at *
        generalize ys[j] = cy at *
        clear hj1 hj2
        obtain ⟨e1, e2⟩ := cx
        obtain ⟨f1, f2⟩ := cy
        have HS3 : Hid (R = (((decide (e1 = f1) && decide (e2 = f2)) && eqC (xs.drop (j + 1)) (ys.drop (j + 1))) && RR)) := HS3.out
        dsimp only at *
        have i1 : (0 : Int) ≤ (j : Int) := by omega
        have i2 : (j : Int) < (xl : Int) := by omega
        by_cases h1 : e1 = f1
        case neg =>
          have HR : Hid (R = false) := by rw [Hid, HS3.out, decide_eq_false h1]; rfl
          have e1 := tl_ne h1
          clear HS3 h1
          go_wp2_with (fail)
          all_goals try (exfalso; omega)
          go_quiet (fail)
          go_wp2
          all_goals try (exfalso; omega)
          go_ret
          exact ⟨ret_bool HR.out.symm, (HFV.out.trans HF2.out).trans (fresh_drewN _ _)⟩
        subst h1
        by_cases h2 : e2 = f2
        case neg =>
          have HR : Hid (R = false) := by rw [Hid, HS3.out, decide_eq_false h2]; simp
          have e1 := tl_ne h2
          clear HS3 h2
          go_wp2_with (fail)
          all_goals try (exfalso; omega)
          go_quiet (fail)
          go_wp2
          all_goals try (exfalso; omega)
          go_ret
          exact ⟨ret_bool HR.out.symm, (HFV.out.trans HF2.out).trans (fresh_drewN _ _)⟩
        subst h2
        have HN : Hid (R = (eqC (xs.drop (j + 1)) (ys.drop (j + 1)) && RR)) := by rw [Hid, HS3.out]; simp
        clear HS3
        go_wp2_with (fail)
        all_goals try (exfalso; omega)
        go_quiet (fail)
        go_wp2
        all_goals try (exfalso; omega)
        go_roundw
        case rel => exact ⟨j + 1, by simp, by omega, HN.out, HF2.out.trans (fresh_drewN _ _)⟩
        case measure => simp [intOf]; omega
      case neg =>
        obtain rfl : j = xl := by omega
        have HN : Hid (R = eqP ((pods2 l).drop (k + 1)) ((pods2 m).drop (k + 1))) := by
          rw [Hid, HEJ.out, List.drop_of_length_le (by rw [HXL.out]; exact Nat.le_refl _), List.drop_of_length_le (by rw [HYL.out]; exact Nat.le_refl _), ← HRR.out]; rfl
        clear HEJ
        go_wp2
        all_goals try (exfalso; omega)
        go_roundw
        case rel => exact ⟨k + 1, by simp, by omega, HN.out, HFW.out.trans HF2.out⟩
        case measure => simp [intOf]; omega
  case neg =>
    obtain rfl : k = n := by omega
    have HR : Hid (R = true) := by rw [Hid, HE.out, List.drop_of_length_le (by rw [HPL.out.1]; exact Nat.le_refl _), List.drop_of_length_le (by rw [HPL.out.2]; exact Nat.le_refl _)]; rfl
    go_wp2
    all_goals try (exfalso; omega)
    go_ret
    exact ⟨ret_bool HR.out.symm, HF0.out.trans HF.out⟩
end Go.Proofs.YtldncgelghcjeaaGreatDoor.K
namespace Go.Proofs.YtldncgelghcjeaaGreatDoor.K
open Go.ChangeShapes Go.WideShapes Go.ChangeAt Go.RowKit

/-- A row of pods that hold that. -/
def AtP (L : List P2) (w : World) (a : Option Addr) : Prop := ∃ D, pods2 D = L ∧ Row2 w a D
theorem AtP.move {L : List P2} {w w' : World} {a : Option Addr} (h : AtP L w a) (f : Fresh w w') : AtP L w' a := by
  obtain ⟨D, h1, h2⟩ := h
  exact ⟨D, h1, h2.move f⟩
theorem AtP.nil (w : World) (a : Option Addr) : AtP [] w a := ⟨[], rfl, Row2.nil _ _⟩
theorem of2_at (seq : Int) (a : Option Addr) (L : List P2) (c : Nat) (w : World) (h : AtP L w a) (hl : L.length ≤ 4000000) (hcl : ∀ p ∈ L, p.cs.length ≤ 4000000) :
    Calls Tryz.prog 28 #[st2 seq a L.length c] w fun r w' => ∃ a c, r = .returned (st2 seq a L.length c) ∧ AtP L w' a ∧ Fresh w w' := by
  obtain ⟨D, rfl, hr⟩ := h
  rw [pods2_length] at hl ⊢
  refine (of2_any seq a D c w hr hl (fun m hm => hcl _ (pods2_mem hm))).mono ?_
  rintro r w' ⟨a, c, E, rfl, h1, h2, h3, h4⟩
  have hlen : E.length = D.length := by rw [← pods2_length E, h1, pods2_length]
  exact ⟨a, c, by rw [hlen], ⟨E, h1, RowAt.owns h2, fun m hm => (h3 m hm).in⟩, h4⟩
theorem rsame2_at (s t : Int) (L M : List P2) (a a' : Option Addr) (c c' : Nat) (w : World) (h : AtP L w a) (h' : AtP M w a') (hl : L.length ≤ 4000000) (hcl : ∀ p ∈ L, p.cs.length ≤ 4000000) :
    Calls Tryz.prog 29 #[st2 s a L.length c, st2 t a' M.length c'] w fun e w' => e = .returned (.bool (same2 s t L M)) ∧ Fresh w w' := by
  obtain ⟨D, rfl, hr⟩ := h
  obtain ⟨E, rfl, hr'⟩ := h'
  rw [pods2_length] at hl ⊢
  rw [pods2_length]
  exact rsame2_any s t D E a a' c c' w hr hr' hl (fun m hm => hcl _ (pods2_mem hm))
theorem small2_at (seq : Int) (a : Option Addr) (L : List P2) (c : Nat) (w : World) (h : AtP L w a) (hf : ∀ p ∈ L, p.Fit 140737488355328) (hl : L.length ≤ maxLen) (hcl : ∀ p ∈ L, p.cs.length ≤ maxLen) :
    Calls Tryz.prog 25 #[st2 seq a L.length c] w fun e w' => e = .returned (.bool (smB 0 L)) ∧ Fresh w w' := by
  obtain ⟨D, rfl, hr⟩ := h
  rw [pods2_length] at hl ⊢
  exact small2_any seq a D c w hr (fun m hm => hf _ (pods2_mem hm)) hl (fun m hm => hcl _ (pods2_mem hm))
theorem same2_self (q : Int) (L : List P2) : same2 q q L L = true := by
  unfold same2
  rw [eqP_self, decide_eq_true rfl]; rfl
end Go.Proofs.YtldncgelghcjeaaGreatDoor.K

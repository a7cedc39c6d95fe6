/-
  The laws' Awake.
-/
import Derived.Test.YtfhhmajkacjbgaaDoorSPdef
import Derived.Test.YtfhhmajkacjbgaaDoorSPcheck
import Derived.Test.YtfhhmajkacjbgaaDoorPieces
namespace Go.Proofs.YtfhhmajkacjbgaaDoor
open Go.ChangeShapes Go.WideShapes Go.ChangeAt Go.RowKit
attribute [local go_sem ↓] Go.wp_at_zero Go.wp_at_succ

theorem var13_any (w : World) : Calls Tryd.prog 45 #[.string ⟨#[95, 88]⟩] w fun e w' => e = .returned (.bool true) ∧ w = w' := variable_any ⟨#[95, 88]⟩ w (by decide)
theorem awake13_any (w : World) : Calls Tryd.prog 26 #[] w fun e w' => e = .returned (.bool true) ∧ Fresh w w' := by
  have HL1 : Hid (∀ W, Calls Tryd.prog 28 #[.string ⟨#[97, 45, 49]⟩] W fun e w' => e = .returned (.bool true) ∧ W = w') := fun W => label_any ⟨#[97, 45, 49]⟩ W (by decide)
  have HL2 : Hid (∀ W, Calls Tryd.prog 28 #[.string ⟨#[45, 97]⟩] W fun e w' => e = .returned (.bool false) ∧ W = w') := fun W => label_any ⟨#[45, 97]⟩ W (by decide)
  have HN : Hid (∀ W, Calls Tryd.prog 27 #[.string ⟨#[97, 46, 98, 45, 99]⟩] W fun e w' => e = .returned (.bool true) ∧ Fresh W w') := fun W => name_any [97, 46, 98, 45, 99] W (by decide)
  have HV := Lib.hid (fun W => var13_any W)
  go_enter Tryd.func26, Tryd.ntmps26
  go_wp2_with (fail)
  refine (HL1.out _).mono ?_
  rintro e w' ⟨rfl, rfl⟩
  go_wp2_with (fail)
  refine (HL2.out _).mono ?_
  rintro e w' ⟨rfl, rfl⟩
  go_wp2_with (fail)
  refine (HN.out _).mono ?_
  rintro e w1 ⟨rfl, hf⟩
  go_wp2_with (fail)
  refine (HV.out _).mono ?_
  rintro e w' ⟨rfl, rfl⟩
  go_wp2
  go_ret
  exact ⟨rfl, hf⟩
/-- The document's pod. -/
def exC : Ct := ⟨⟨#[99]⟩, ⟨#[110, 103, 105, 110, 120]⟩, [], [], 0, 0, []⟩
def exPd : Pd := ⟨⟨#[119, 101, 98]⟩, ⟨#[]⟩, 0, 0, false, [exC]⟩
def exM : CM := ⟨exC, none, 0, none, 0, none, 0⟩
def exP (a : Option Addr) : PM := ⟨⟨#[119, 101, 98]⟩, ⟨#[]⟩, 0, 0, false, a, 1, [exM]⟩
theorem exP_pd (a : Option Addr) : (exP a).pd = exPd := rfl
theorem ex_bad : podE exPd = 13 := by decide +kernel
theorem ex_good : podE (defP exPd) = 0 := by decide +kernel
theorem exC_low : exC.Low where
  name := by decide
  image := by decide
  lc := by decide
  lp := by decide
  le := by decide
  cmd := fun s h => by cases h
  env := fun s h => by cases h
  icpu := by decide
  imem := by decide
  ip := fun s h => by cases h
theorem exP_low (a : Option Addr) : (exP a).Low where
  name := by show ByteArray.size ⟨#[119, 101, 98]⟩ ≤ _; decide
  ns := by show ByteArray.size ⟨#[]⟩ ≤ _; decide
  ir := by show (Lit.int .i64 0).wf = true; decide
  ig := by show (Lit.int .i64 0).wf = true; decide
  len := by show 1 ≤ _; decide
  cs := fun m hm => by rw [List.mem_singleton.1 hm]; exact exC_low
theorem exC_sml : exC.Sml where
  name := by decide
  image := by decide
  lc := by decide
  lp := by decide
  le := by decide
  cmd := fun s h => by cases h
  env := fun s h => by cases h
theorem defC_sml {c : Ct} (h : c.Sml) : (defC c).Sml := ⟨h.name, h.image, h.lc, h.lp, h.le, h.cmd, h.env⟩
set_option maxRecDepth 100000 in
theorem example_any (w : World) : Calls Tryd.prog 24 #[] w fun e w' => ∃ a, e = .returned (exP a).val ∧ (exP a).At w' ∧ Fresh w w' := by
  go_enter Tryd.func24, Tryd.ntmps24
  go_wp2
  have h1 := at_alloc (p := .cells #[.string ⟨#[99]⟩, .string ⟨#[110, 103, 105, 110, 120]⟩, .slice none 0 0, .slice none 0 0, .int .i64 0, .int .i64 0, .slice none 0 0] 53) (at_new w (.cells #[.string ⟨#[119, 101, 98]⟩, .string ⟨#[]⟩, .int .i64 0, .int .i64 0, .bool false, .slice (some ⟨w.heap.size + 1, 0, none⟩) 1 1] 25))
  have h2 := at_new (w.alloc (.cells #[.string ⟨#[119, 101, 98]⟩, .string ⟨#[]⟩, .int .i64 0, .int .i64 0, .bool false, .slice (some ⟨w.heap.size + 1, 0, none⟩) 1 1] 25)) (.cells #[.string ⟨#[99]⟩, .string ⟨#[110, 103, 105, 110, 120]⟩, .slice none 0 0, .slice none 0 0, .int .i64 0, .int .i64 0, .slice none 0 0] 53)
  rw [World.size_alloc] at h2
  have h3 := ((Fresh.refl w).alloc (.cells #[.string ⟨#[119, 101, 98]⟩, .string ⟨#[]⟩, .int .i64 0, .int .i64 0, .bool false, .slice (some ⟨w.heap.size + 1, 0, none⟩) 1 1] 25)).alloc (.cells #[.string ⟨#[99]⟩, .string ⟨#[110, 103, 105, 110, 120]⟩, .slice none 0 0, .slice none 0 0, .int .i64 0, .int .i64 0, .slice none 0 0] 53)
  generalize (w.alloc (.cells #[.string ⟨#[119, 101, 98]⟩, .string ⟨#[]⟩, .int .i64 0, .int .i64 0, .bool false, .slice (some ⟨w.heap.size + 1, 0, none⟩) 1 1] 25)).alloc (.cells #[.string ⟨#[99]⟩, .string ⟨#[110, 103, 105, 110, 120]⟩, .slice none 0 0, .slice none 0 0, .int .i64 0, .int .i64 0, .slice none 0 0] 53) = W at *
  obtain ⟨⟨q0, q1, q2, q3, q4, q5⟩, _⟩ := box6p h1
  refine bodyPost_ret (v := (exP (some ⟨w.heap.size + 1, 0, none⟩)).val) (by simp [results, Tryd.f24, go_sem, exP, PM.val, *]) rfl ⟨_, rfl, ⟨?_, ?_, ?_⟩, h3⟩
  · refine .inr ⟨_, 0, rfl, fun j x hj => ?_⟩
    rw [Nat.zero_add]
    exact cell_of_at h2 (by simpa [ccells, CM.cells, exP, exM, exC] using hj)
  · intro m hm
    rw [List.mem_singleton.1 hm]
    exact ⟨.nil _ _, .nil _ _, .nil _ _, Nat.le_refl _⟩
  · exact Nat.le_refl _
theorem q_parts {q : PM} (h : q.pd = defP exPd) : ∃ a cap ca cc pa pc ea ec, q = ⟨⟨#[119, 101, 98]⟩, nsDef, 0, 30, false, a, cap, [⟨⟨⟨#[99]⟩, ⟨#[110, 103, 105, 110, 120]⟩, [], [], 100, 64, []⟩, ca, cc, pa, pc, ea, ec⟩]⟩ := by
  obtain ⟨name, ns, rs, gr, ho, a, cap, cs⟩ := q
  have h2 : Pd.mk name ns rs gr ho (cs.map (·.c)) = ⟨⟨#[119, 101, 98]⟩, nsDef, 0, 30, false, [⟨⟨#[99]⟩, ⟨#[110, 103, 105, 110, 120]⟩, [], [], 100, 64, []⟩]⟩ := h
  simp only [Pd.mk.injEq] at h2
  obtain ⟨rfl, rfl, rfl, rfl, rfl, h3⟩ := h2
  match cs, h3 with
  | [m], h3 =>
    obtain ⟨c, ca, cc, pa, pc, ea, ec⟩ := m
    simp only [List.map_cons, List.map_nil, List.cons.injEq, and_true] at h3
    subst h3
    exact ⟨a, cap, ca, cc, pa, pc, ea, ec, rfl⟩
  | [], h3 => simp at h3
  | _ :: _ :: _, h3 => simp at h3
theorem exDef_sml : (defP exPd).Sml where
  name := by show ByteArray.size ⟨#[119, 101, 98]⟩ ≤ _; decide
  ns := by show ByteArray.size nsDef ≤ _; decide
  len := by show 1 ≤ _; decide
  cs := fun c hc => by
    have : c = defC exC := List.mem_singleton.1 hc
    rw [this]; exact defC_sml exC_sml
theorem ex_sml : exPd.Sml where
  name := by show ByteArray.size ⟨#[119, 101, 98]⟩ ≤ _; decide
  ns := by show ByteArray.size ⟨#[]⟩ ≤ _; decide
  len := by show 1 ≤ _; decide
  cs := fun c hc => by
    have : c = exC := List.mem_singleton.1 hc
    rw [this]; exact exC_sml
set_option maxRecDepth 100000 in
set_option maxHeartbeats 2000000 in
theorem awake14_any (w : World) (hT : Tabs w) : Calls Tryd.prog 7 #[] w fun e w' => e = .returned (.bool true) ∧ Fresh w w' := by
  have HT := Lib.hid hT
  have HEX := Lib.hid (fun W => example_any W)
  have HA6 := Lib.hid (fun W (f : Fresh w W) => awake_any W (HT.out.move f))
  have HA13 := Lib.hid (fun W => awake13_any W)
  clear hT
  go_enter Tryd.func7, Tryd.ntmps7
  go_wp2_with (fail)
  refine (HEX.out _).mono ?_
  rintro e W1 ⟨a, rfl, hat, hf⟩
  have HDF := Lib.hid (default_any (exP a) W1 hat (exP_low a))
  have HF1 := Lib.hid hf
  clear hat hf
  rw [show (exP a).val = .agg #[.string ⟨#[119, 101, 98]⟩, .string ⟨#[]⟩, .int .i64 0, .int .i64 0, .bool false, .slice a 1 1] from rfl] at HDF ⊢
  go_wp2_with (fail)
  refine HDF.out.mono ?_
  rintro e W2 ⟨q, rfl, hpd, hq, hf2⟩
  replace hpd : q.pd = defP exPd := hpd
  have HF2 := Lib.hid (HF1.out.trans hf2)
  have hat := hq.at
  have HC1 := Lib.hid (fun W (f : Fresh W2 W) => check_any q W (HT.out.move (HF2.out.trans f)) (hat.move f) (by rw [hpd]; exact exDef_sml) (fun m hm => (hq.ins m hm).inn.room))
  rw [hpd, ex_good] at HC1
  obtain ⟨a2, cap, ca, cc, pa, pc, ea, ec, rfl⟩ := q_parts hpd
  have HR := Lib.hid (hq.row)
  clear hpd hq hf2 hat HDF
  rw [show (PM.mk ⟨#[119, 101, 98]⟩ nsDef 0 30 false a2 cap [⟨⟨⟨#[99]⟩, ⟨#[110, 103, 105, 110, 120]⟩, [], [], 100, 64, []⟩, ca, cc, pa, pc, ea, ec⟩]).val = .agg #[.string ⟨#[119, 101, 98]⟩, .string ⟨#[100, 101, 102, 97, 117, 108, 116]⟩, .int .i64 0, .int .i64 30, .bool false, .slice a2 1 cap] from rfl] at HC1 ⊢
  have HR1 : Hid (W2.ownsRow W1.heap.size 53 7 (.slice a2 1 cap) 1 [.string ⟨#[99]⟩, .string ⟨#[110, 103, 105, 110, 120]⟩, .slice ca 0 cc, .slice pa 0 pc, .int .i64 100, .int .i64 64, .slice ea 0 ec]) := HR.out
  obtain ⟨g, rfl, hgb, hcap⟩ := own_form HR1.out (i := 0) (by omega)
  have hc4 : W2.cell? ⟨g, 4, none⟩ = some (.int .i64 100) := (World.ownsRow.cellAt HR1.out 4 (by omega)).trans rfl
  have hc5 : W2.cell? ⟨g, 5, none⟩ = some (.int .i64 64) := (World.ownsRow.cellAt HR1.out 5 (by omega)).trans rfl
  have HB := Lib.hid (at_new W2 (.cells #[.string ⟨#[119, 101, 98]⟩, .string ⟨#[100, 101, 102, 97, 117, 108, 116]⟩, .int .i64 0, .int .i64 30, .bool false, .slice (some ⟨g, 0, none⟩) 1 cap] 25))
  have HFB := Lib.hid ((Fresh.refl W2).alloc (.cells #[.string ⟨#[119, 101, 98]⟩, .string ⟨#[100, 101, 102, 97, 117, 108, 116]⟩, .int .i64 0, .int .i64 30, .bool false, .slice (some ⟨g, 0, none⟩) 1 cap] 25))
  have HC45 : Hid (∀ W, Fresh W2 W → W.cell? ⟨g, 4, none⟩ = some (.int .i64 100) ∧ W.cell? ⟨g, 5, none⟩ = some (.int .i64 64)) := fun W f => ⟨f.cell hc4, f.cell hc5⟩
  clear hc4 hc5 HR HR1
  go_wp2_with (fail)
  generalize W2.alloc (.cells #[.string ⟨#[119, 101, 98]⟩, .string ⟨#[100, 101, 102, 97, 117, 108, 116]⟩, .int .i64 0, .int .i64 30, .bool false, .slice (some ⟨g, 0, none⟩) 1 cap] 25) = W3 at *
  obtain ⟨b, hb⟩ : ∃ b, b = W2.heap.size := ⟨_, rfl⟩
  rw [← hb] at HB ⊢
  clear hb
  refine (HA6.out _ (HF2.out.trans HFB.out)).mono ?_
  rintro e W4 ⟨rfl, hf⟩
  have HF4 := Lib.hid hf
  clear hf
  go_wp2_with (fail)
  refine (HA13.out _).mono ?_
  rintro e W5 ⟨rfl, hf⟩
  have HF5 := Lib.hid (HF4.out.trans hf)
  clear hf HF4
  obtain ⟨⟨q0, q1, q2, q3, q4, q5⟩, _⟩ := box6p (HF5.out.at HB.out)
  go_wp2_with (fail)
  refine (HC1.out _ (HFB.out.trans HF5.out)).mono ?_
  rintro e W6 ⟨rfl, hf⟩
  have HF6 := Lib.hid (HF5.out.trans hf)
  clear hf HF5 q0 q1 q2 q3 q4 q5
  obtain ⟨⟨q0, q1, q2, q3, q4, q5⟩, _⟩ := box6p (HF6.out.at HB.out)
  obtain ⟨r4, r5⟩ := HC45.out _ (HFB.out.trans HF6.out)
  go_wp2_with (fail)
  refine (HEX.out _).mono ?_
  rintro e W7 ⟨a3, rfl, hat, hf⟩
  have HF7 := Lib.hid (HF6.out.trans hf)
  have HC2 := Lib.hid (check_any (exP a3) W7 (HT.out.move ((HF2.out.trans HFB.out).trans HF7.out)) hat (by rw [exP_pd]; exact ex_sml) (fun m hm => by rw [List.mem_singleton.1 hm]; exact Nat.le_refl _))
  rw [exP_pd, ex_bad, show (exP a3).val = .agg #[.string ⟨#[119, 101, 98]⟩, .string ⟨#[]⟩, .int .i64 0, .int .i64 0, .bool false, .slice a3 1 1] from rfl] at HC2
  rw [show (exP a3).val = .agg #[.string ⟨#[119, 101, 98]⟩, .string ⟨#[]⟩, .int .i64 0, .int .i64 0, .bool false, .slice a3 1 1] from rfl]
  clear hf hat q0 q1 q2 q3 q4 q5 r4 r5
  go_wp2_with (fail)
  refine HC2.out.mono ?_
  rintro e W8 ⟨rfl, hf⟩
  have HF8 := Lib.hid (((HF2.out.trans HFB.out).trans HF7.out).trans hf)
  clear hf
  go_wp2
  go_ret
  exact ⟨rfl, HF8.out⟩
end Go.Proofs.YtfhhmajkacjbgaaDoor

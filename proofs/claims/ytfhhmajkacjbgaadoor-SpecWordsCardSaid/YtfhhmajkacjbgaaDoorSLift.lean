/-
  From the walks of SpecChecks and SpecDefaults to their rows and cards (of what is of bulk at most 1048576): the walks stand here as hypotheses.
-/
import Derived.Test.YtfhhmajkacjbgaaDoorCards
import Derived.Test.YtfhhmajkacjbgaaDoorTie
import Derived.Test.YtfhhmajkacjbgaaDoorSOpen
import Derived.Test.YtfhhmajkacjbgaaDoorShelf
import Derived.Lib.LaidIn
import Derived.Lib.LaidU8T
import Derived.Deep.DeepHandedRow
import Derived.Deep.DeepWitnessRowRef
import Derived.SevenTiedAt
import Derived.Carry
import Derived.ChangeOld
namespace Go.Proofs.YtfhhmajkacjbgaaDoor
open Go.ChangeShapes Go.WideShapes Go.ChangeAt Go.RowKit Go.Shelf
set_option linter.unusedVariables false

theorem own : ownKnob Tryd.prog.godebug = none := by kernel_rfl
theorem laidOut : laidOutB Tryd.prog = true := by kernel_rfl
theorem first_eq : Rows.laid_unicode_utf8_first = Lib.firstData := by kernel_rfl
theorem accept_eq : (Rows.laid_unicode_utf8_acceptRanges : DataW Unit) = Lib.acceptData := by kernel_rfl
theorem u8types : U8Types Tryd.prog Tryd.laysValid_ren := U8Types.of196 Tryd.laysValid
abbrev UTabs (w : World) : Prop := Lib.Utf8Tabs (Tryd.laysValid_ren.g 3) (Tryd.laysValid_ren.g 4) w
/-- What a statement's two walks are. -/
def WalkChecks : Prop := ∀ (p q : PM) (W : World), UTabs W → p.At W → q.At W → p.Low → q.Low → Calls Tryd.prog 3 #[p.val, q.val] W fun e w' => e = .returned (.bool true) ∧ Fresh W w'
def WalkDefaults : Prop := ∀ (p : PM) (W : World), UTabs W → p.At W → p.Low → Calls Tryd.prog 5 #[p.val] W fun e w' => e = .returned (.bool true) ∧ Fresh W w'
def putCells (h : Array Obj) (g : Nat) (cs : Array Value) : Array Obj := h.modify g fun o => match o with
  | .cells _ t frozen => .cells cs t frozen
  | o => o
/-- The witness: the settled world, both tables as their text lays them. -/
noncomputable def laidWorld (os : Os) : World :=
  let w0 := World.holding Tryd.prog os ⟨#[], #[], []⟩
  { w0 with heap := putCells (putCells w0.heap 2 (Lib.firstTab.map fun z => Value.int .u8 z).toArray) 3 ((List.range 16).flatMap fun i => [Value.int .u8 (Lib.accLo i), Value.int .u8 (Lib.accHi i)]).toArray }
abbrev pod0 : Value := .agg #[.string ⟨#[]⟩, .string ⟨#[]⟩, .int .i64 0, .int .i64 0, .bool false, .slice none 0 0]
theorem laid_met (os : Os) (args : Array Value) : laidMet Tryd.prog Rows.specChecksUptoRow.laid ((laidWorld os).forCall (fun _ _ => 0) ⟨#[], args, []⟩).memory :=
  (LaidIn.of_run (l := [("unicode/utf8.acceptRanges", Rows.laid_unicode_utf8_acceptRanges), ("unicode/utf8.first", Rows.laid_unicode_utf8_first)]) [3, 2] 8 (by kernel_rfl) (by kernel_rfl) (by kernel_rfl) (by kernel_rfl)).met
theorem witness_checks (os : Os) {H : Type} (enc : TypeId × Value → H) :
    (Rows.OpenSpec.upto Rows.specChecksSpec).preRow enc Tryd.prog Tryd.f3 Rows.specChecksUptoRow.domain false Rows.specChecksUptoRow.laid ((laidWorld os).forCall (fun _ _ => 0) ⟨#[], #[pod0, pod0], []⟩).memory #[pod0, pod0] := by
  have hw : (DataW.whole enc Tryd.prog ((laidWorld os).forCall (fun _ _ => 0) ⟨#[], #[pod0, pod0], []⟩).memory Tryd.f3.params.toList (Rows.OpenSpec.upto Rows.specChecksSpec).vars false #[pod0, pod0].toList 8).map (fun x => (x.1, x.2.1)) =
      some ([.agg [.lit (.string []), .lit (.string []), .lit (.int .i64 0), .lit (.int .i64 0), .lit (.bool false), .nil], .agg [.lit (.string []), .lit (.string []), .lit (.int .i64 0), .lit (.int .i64 0), .lit (.bool false), .nil]], []) := by kernel_rfl
  obtain ⟨⟨x1, x2, x3⟩, hx, hx1⟩ := Option.map_eq_some_iff.1 hw
  simp only [Prod.mk.injEq] at hx1
  obtain ⟨rfl, rfl⟩ := hx1
  exact OpenSpec.preRow_of_cond 8 hx (by kernel_rfl) (fun k hk => by cases hk; kernel_rfl) (by kernel_rfl) (laid_met os _)
set_option maxRecDepth 100000 in
theorem utf8_tabs {W : World} (hL : laidMet Tryd.prog Rows.specChecksUptoRow.laid W) : UTabs W :=
  utf8Tabs_of_readsT u8types ⟨by kernel_rfl, by kernel_rfl, by kernel_rfl, by kernel_rfl, by kernel_rfl, by kernel_rfl, by kernel_rfl⟩
    (by rw [← first_eq]; exact Lib.laidMet.reads hL (.tail _ (.head _))) (by rw [← accept_eq]; exact Lib.laidMet.reads hL (.head _))
set_option maxRecDepth 100000 in
/-- A pod among the arguments. -/
theorem arg_pod {H : Type} {enc : TypeId × Value → H} {W : World} {base : Nat} {v : Value} {d : DataW H} {p : List MemPlace} (ho : Value.okWide Tryd.prog W .any base 25 v) (h : DataW.Trod enc Tryd.prog W 0 (fun _ => true) true 25 v d p) :
    ∃ m : PM, v = m.val ∧ m.At W ∧ (Rows.uptoBulk d ≤ 1048576 → m.Low) := by
  obtain ⟨cs, rfl, hs⟩ := okWide_struct Tryd.underlying25 ho
  obtain ⟨f, g⟩ := h
  obtain ⟨m, h1, h2, h3⟩ := open_pod g
  refine ⟨m, ?_, h2, h3⟩
  have : cs = m.val.cells := Array.toList_inj.1 h1
  rw [this]; rfl
theorem trod_low {H : Type} {enc : TypeId × Value → H} {W : World} {t : TypeId} {v : Value} {d : DataW H} {p : List MemPlace} (h : DataW.Trod enc Tryd.prog W 0 (fun _ => true) true t v d p) : ∀ x ∈ p, x.block < W.heap.size := by
  obtain ⟨m, hm⟩ := h
  exact DataW.trod_lt m _ _ _ hm
set_option maxRecDepth 100000 in
set_option maxHeartbeats 2000000 in
theorem lifted_checks (hwalk : WalkChecks) (os : Os) (started : os.Started) (H : Type) (enc : TypeId × Value → H) (F : Stop.Interp) :
    ReturnsInHanded {} Tryd.checked os 3 .any ((Rows.OpenSpec.upto Rows.specChecksSpec).preRow enc Tryd.prog Tryd.f3 Rows.specChecksUptoRow.domain false Rows.specChecksUptoRow.laid) (((Rows.OpenSpec.upto Rows.specChecksSpec).at F).post enc Tryd.prog Tryd.f3 false true false false) := by
  refine returnsInHanded_of_row (C := Tryd.checked) (s := Rows.OpenSpec.upto Rows.specChecksSpec) own started (by kernel_rfl) Tryd.func3
    (witness_row_atRef (enc := enc) (C := Tryd.checked) false (laidWorld os) #[pod0, pod0] rfl (by kernel_rfl) (by kernel_rfl) (by kernel_rfl) (witness_checks os enc)) ?_
  intro W base args ds gs before hval0 hW _ hcond _ hL _ _
  have hval : ∀ (j : Nat) t v, Tryd.f3.params[j]? = some t → args[j]? = some v → Value.okWide Tryd.prog W .any base t v := hval0
  have hW' := hW
  obtain ⟨p, q, hA0, hV0, rfl, _, _⟩ := hW
  have hA : DataW.TrodAll enc Tryd.prog W 0 (fun _ => true) true Tryd.f3.params.toList args.toList ds p := hA0
  rw [Tryd.params3] at hA hval
  obtain ⟨v0, vs0, d0, ds0, p0, q0, hargs, rfl, rfl, h0, r0⟩ := trodAll_cons hA
  obtain ⟨v1, vs1, d1, ds1, p1, q1, rfl, rfl, rfl, h1, r1⟩ := trodAll_cons r0
  obtain ⟨rfl, rfl, rfl⟩ := trodAll_nil r1
  obtain rfl : args = #[v0, v1] := by cases args; simp_all
  obtain ⟨rfl, rfl⟩ := trodVars_none hV0
  have hk : Rows.uptoSmall H ([d0, d1] ++ []) = true := hcond _ rfl
  have hk2 : Rows.uptoBulkAll ([d0, d1] ++ []) ≤ 1048576 := of_decide_eq_true hk
  simp only [List.append_nil, Rows.uptoBulkAll] at hk2
  obtain ⟨m0, e0, a0, l0⟩ := arg_pod (hval 0 25 v0 rfl rfl) h0
  obtain ⟨m1, e1, a1, l1⟩ := arg_pod (hval 1 25 v1 rfl rfl) h1
  have lt0 := trod_low h0
  have lt1 := trod_low h1
  subst e0 e1
  refine (hwalk m0 m1 W (utf8_tabs hL) a0 a1 (l0 (by omega)) (l1 (by omega))).mono ?_
  rintro e W' ⟨rfl, hg⟩
  have e1 : ((Rows.OpenSpec.upto Rows.specChecksSpec).at F).fn H ([d0, d1] ++ []) = { results := [.lit (.bool true)], args := [d0, d1] } := rfl
  refine ⟨_, rfl, _, _, _, [], p0 ++ (p1 ++ []), [], hW', ?_, ?_, ?_, hg.frame _, fun h => by cases h⟩
  · rw [e1]; exact trodAll_mk1 (shut_bool Tryd.underlying4 _)
  · rw [e1]; exact trodAll_cons_mk (Below.trod laidOut (by kernel_rfl) (of_decide_eq_true (by kernel_rfl)) h0 hg lt0) (trodAll_cons_mk (Below.trod laidOut (by kernel_rfl) (of_decide_eq_true (by kernel_rfl)) h1 hg lt1) trodAll_mk0)
  · rw [e1]; rfl
theorem checks_row (hwalk : WalkChecks) : Rows.SpecChecksUptoSaid :=
  OpenClaim.holds_of_cond 3 Tryd.f3 rfl rfl rfl rfl rfl rfl rfl ⟨rfl, rfl, rfl, rfl, rfl⟩ rfl rfl rfl rfl rfl (by kernel_rfl) Tryd.func3 (by kernel_rfl)
    (of_decide_eq_true (by kernel_rfl)) (by unfold Func.isWrapper; first | (rw [if_neg (of_decide_eq_false (by kernel_rfl))]; exact ⟨rfl, rfl⟩) | (rw [if_pos (by decide +kernel)]; kernel_rfl))
    (fun os started H enc _ F0 => by rw [OpenClaim.pre_eq_preRow]; exact lifted_checks hwalk os started H enc F0)
theorem plain_checks (f : FuncId) (fn : Func) (hf : Tryd.pinned.checked.prog.funcNamed "bosun/bosunlaw14.SpecChecks" = some f) (hfn : Tryd.pinned.checked.prog.funcs[f]? = some fn) :
    false = Tryd.pinned.checked.prog.looks [] ∧ ∀ (j : Nat) t, fn.params[j]? = some t → Tryd.pinned.checked.prog.wantsStandIn t = false := by
  obtain rfl : f = 3 := Option.some.inj ((show Tryd.prog.funcNamed "bosun/bosunlaw14.SpecChecks" = some 3 by kernel_rfl).symm.trans hf) |>.symm
  obtain rfl : fn = Tryd.f3 := (Option.some.inj (Tryd.func3.symm.trans hfn)).symm
  refine ⟨by kernel_rfl, fun j t ht => ?_⟩
  rw [Tryd.params3] at ht
  have h3 : t = 25 := by
    rcases j with _ | _ | j
    · simpa using ht.symm
    · simpa using ht.symm
    · simp at ht
  subst h3
  exact (show Tryd.prog.wantsStandIn 25 = false by kernel_rfl)
theorem checks_card (hwalk : WalkChecks) : Rows.SpecChecksUptoCardSaid :=
  Claim7.holds_tied_plain_at .later [] _ _ _ _ (checks_row hwalk) (fun _ h => by cases h) (by kernel_rfl) (fun _ h => by cases h) specChecksUpto_row_tie rfl ⟨rfl, rfl⟩ (by kernel_rfl) rfl plain_checks (by kernel_rfl)
end Go.Proofs.YtfhhmajkacjbgaaDoor

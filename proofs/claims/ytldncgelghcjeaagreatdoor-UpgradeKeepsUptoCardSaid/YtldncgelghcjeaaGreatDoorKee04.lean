/-
  PROVED: for every state of version 1 and every state of version 1 and every state of version 2, whose readings hold together with the library's two tables at most 1048576 values and letters, the given statement UpgradeKeeps returns true, where the library's two UTF-8 tables read as the program's text lays them (the card ties that); no other condition.
-/
import Derived.Test.YtldncgelghcjeaaGreatDoorCat01
import Derived.Test.YtldncgelghcjeaaGreatDoorKee01
import Derived.Test.YtldncgelghcjeaaGreatDoorKee03
set_option linter.unusedSimpArgs false
set_option linter.unusedVariables false
namespace Go.Proofs.YtldncgelghcjeaaGreatDoor
open Go.ChangeShapes Go.WideShapes Go.ChangeAt Go.RowKit Go.Shelf
open Go.ChangeMaps (open_string shut_string)
set_option linter.unusedVariables false

theorem laid_met_keeps (os : Os) (args : Array Value) : laidMet Tryz.prog Rows.upgradeKeepsUptoRow.laid ((laidWorld os).forCall (fun _ _ => 0) ⟨#[], args, []⟩).memory :=
  (LaidIn.of_run (l := [("unicode/utf8.acceptRanges", Rows.laid_unicode_utf8_acceptRanges), ("unicode/utf8.first", Rows.laid_unicode_utf8_first)]) [1, 0] 8 (by kernel_rfl) (by kernel_rfl) (by kernel_rfl) (by kernel_rfl)).met
theorem witness_keeps (os : Os) {H : Type} (enc : TypeId × Value → H) :
    (Rows.OpenSpec.upto Rows.upgradeKeepsSpec).preRow enc Tryz.prog Tryz.f8 Rows.upgradeKeepsUptoRow.domain false Rows.upgradeKeepsUptoRow.laid ((laidWorld os).forCall (fun _ _ => 0) ⟨#[], #[(.agg #[.int .u32 0, .slice none 0 0] : Value), (.agg #[.int .u32 0, .slice none 0 0] : Value), (.agg #[.int .u64 0, .slice none 0 0] : Value)], []⟩).memory #[(.agg #[.int .u32 0, .slice none 0 0] : Value), (.agg #[.int .u32 0, .slice none 0 0] : Value), (.agg #[.int .u64 0, .slice none 0 0] : Value)] := by
  have hw : (DataW.whole enc Tryz.prog ((laidWorld os).forCall (fun _ _ => 0) ⟨#[], #[(.agg #[.int .u32 0, .slice none 0 0] : Value), (.agg #[.int .u32 0, .slice none 0 0] : Value), (.agg #[.int .u64 0, .slice none 0 0] : Value)], []⟩).memory Tryz.f8.params.toList (Rows.OpenSpec.upto Rows.upgradeKeepsSpec).vars false #[(.agg #[.int .u32 0, .slice none 0 0] : Value), (.agg #[.int .u32 0, .slice none 0 0] : Value), (.agg #[.int .u64 0, .slice none 0 0] : Value)].toList 8).map (fun x => (x.1, x.2.1)) =
      some ([.agg [.lit (.int .u32 0), .nil], .agg [.lit (.int .u32 0), .nil], .agg [.lit (.int .u64 0), .nil]], []) := by kernel_rfl
  obtain ⟨⟨x1, x2, x3⟩, hx, hx1⟩ := Option.map_eq_some_iff.1 hw
  simp only [Prod.mk.injEq] at hx1
  obtain ⟨rfl, rfl⟩ := hx1
  exact OpenSpec.preRow_of_cond 8 hx (by kernel_rfl) (fun k hk => by cases hk; kernel_rfl) (by kernel_rfl) (laid_met_keeps os _)
set_option maxRecDepth 100000 in
theorem utf8_tabs_keeps {W : World} (hL : laidMet Tryz.prog Rows.upgradeKeepsUptoRow.laid W) : UTabs W :=
  utf8Tabs_of_readsT u8types ⟨by kernel_rfl, by kernel_rfl, by kernel_rfl, by kernel_rfl, by kernel_rfl, by kernel_rfl, by kernel_rfl⟩
    (by rw [← first_eq]; exact Lib.laidMet.reads hL (.tail _ (.head _))) (by rw [← accept_eq]; exact Lib.laidMet.reads hL (.head _))
set_option maxRecDepth 100000 in
set_option maxHeartbeats 2000000 in
theorem lifted_keeps (os : Os) (started : os.Started) (H : Type) (enc : TypeId × Value → H) (F : Stop.Interp) :
    ReturnsInHanded {} Tryz.checked os 8 .any ((Rows.OpenSpec.upto Rows.upgradeKeepsSpec).preRow enc Tryz.prog Tryz.f8 Rows.upgradeKeepsUptoRow.domain false Rows.upgradeKeepsUptoRow.laid) (((Rows.OpenSpec.upto Rows.upgradeKeepsSpec).at F).post enc Tryz.prog Tryz.f8 false true false false) := by
  refine returnsInHanded_of_row (C := Tryz.checked) (s := Rows.OpenSpec.upto Rows.upgradeKeepsSpec) own started (by kernel_rfl) Tryz.func8
    (witness_row_atRef (enc := enc) (C := Tryz.checked) false (laidWorld os) #[(.agg #[.int .u32 0, .slice none 0 0] : Value), (.agg #[.int .u32 0, .slice none 0 0] : Value), (.agg #[.int .u64 0, .slice none 0 0] : Value)] rfl (by kernel_rfl) (by kernel_rfl) (by kernel_rfl) (witness_keeps os enc)) ?_
  intro W base args ds gs before hval0 hW _ hcond _ hL _ _
  have hval : ∀ (j : Nat) t v, Tryz.f8.params[j]? = some t → args[j]? = some v → Value.okWide Tryz.prog W .any base t v := hval0
  have hW' := hW
  obtain ⟨p, q, hA0, hV0, rfl, _, _⟩ := hW
  have hA : DataW.TrodAll enc Tryz.prog W 0 (fun _ => true) true Tryz.f8.params.toList args.toList ds p := hA0
  rw [Tryz.params8] at hA hval
  obtain ⟨v0, vs0, d0, ds0, p0, q0, hargs, rfl, rfl, h0, r0⟩ := trodAll_cons hA
  obtain ⟨v1, vs1, d1, ds1, p1, q1, rfl, rfl, rfl, h1, r1⟩ := trodAll_cons r0
  obtain ⟨v2, vs2, d2, ds2, p2, q2, rfl, rfl, rfl, h2, r2⟩ := trodAll_cons r1
  obtain ⟨rfl, rfl, rfl⟩ := trodAll_nil r2
  obtain rfl : args = #[v0, v1, v2] := by cases args; simp_all
  obtain ⟨rfl, rfl⟩ := trodVars_none hV0
  have hk : Rows.uptoSmall H ([d0, d1, d2] ++ []) = true := hcond _ rfl
  have hk2 : Rows.uptoBulkAll ([d0, d1, d2] ++ []) ≤ 1048576 := of_decide_eq_true hk
  simp only [List.cons_append, List.nil_append, Rows.uptoBulkAll] at hk2
  obtain ⟨s0, L0, a0, c0, e0, w0, g0⟩ := K.arg_st1 (hval 0 63 v0 rfl rfl) h0
  obtain ⟨l0, m0⟩ := g0.bk 1048576 (by omega)
  have lt0 := trod_low h0
  obtain ⟨s1, L1, a1, c1, e1, w1, g1⟩ := K.arg_st1 (hval 1 63 v1 rfl rfl) h1
  obtain ⟨l1, m1⟩ := g1.bk 1048576 (by omega)
  have lt1 := trod_low h1
  obtain ⟨s2, D2, a2, c2, e2, w2, g2⟩ := K.arg_st2 (hval 2 66 v2 rfl rfl) h2
  obtain ⟨l2, m2⟩ := g2.bk 1048576 (by omega)
  have k2 : (K.pods2 D2).length ≤ 1048576 := by rw [K.pods2_length]; exact l2
  have n2 : ∀ p ∈ K.pods2 D2, p.Sm := fun p hp => by
    obtain ⟨m, hm, rfl⟩ := List.mem_map.1 hp
    exact m2 m hm
  rw [← K.pods2_length D2] at e2
  have lt2 := trod_low h2
  subst e0
  subst e1
  subst e2
  refine (K.keeps_any s0 a0 L0 c0 s1 a1 L1 c1 s2 a2 (K.pods2 D2) c2 W w0 w1 ⟨D2, rfl, w2⟩ (utf8_tabs_keeps hL) l0 m0 g0.s0 g0.s1 l1 m1 g1.s0 g1.s1 k2 n2 g2.s0 g2.s1).mono ?_
  rintro e W' ⟨rfl, hg⟩
  have e1 : ((Rows.OpenSpec.upto Rows.upgradeKeepsSpec).at F).fn H ([d0, d1, d2] ++ []) = { results := [.lit (.bool true)], args := [d0, d1, d2] } := rfl
  refine ⟨_, rfl, _, _, _, [], p0 ++ (p1 ++ (p2 ++ [])), [], hW', ?_, ?_, ?_, hg.frame _, fun h => by cases h⟩
  · rw [e1]; exact trodAll_mk1 (shut_bool Tryz.underlying4 _)
  · rw [e1]; exact trodAll_cons_mk (Below.trod laidOut (by kernel_rfl) (of_decide_eq_true (by kernel_rfl)) h0 hg lt0) (trodAll_cons_mk (Below.trod laidOut (by kernel_rfl) (of_decide_eq_true (by kernel_rfl)) h1 hg lt1) (trodAll_cons_mk (Below.trod laidOut (by kernel_rfl) (of_decide_eq_true (by kernel_rfl)) h2 hg lt2) trodAll_mk0))
  · rw [e1]; rfl
theorem row_keeps : Rows.UpgradeKeepsUptoSaid :=
  OpenClaim.holds_of_cond 8 Tryz.f8 rfl rfl rfl rfl rfl rfl rfl ⟨rfl, rfl, rfl, rfl, rfl⟩ rfl rfl rfl rfl rfl (by kernel_rfl) Tryz.func8 (by kernel_rfl)
    (of_decide_eq_true (by kernel_rfl)) (by unfold Func.isWrapper; first | (rw [if_neg (of_decide_eq_false (by kernel_rfl))]; exact ⟨rfl, rfl⟩) | (rw [if_pos (by decide +kernel)]; kernel_rfl))
    (fun os started H enc _ F0 => by rw [OpenClaim.pre_eq_preRow]; exact lifted_keeps os started H enc F0)
theorem plain_keeps (f : FuncId) (fn : Func) (hf : Tryz.pinned.checked.prog.funcNamed "bosun/bosunlaw20.UpgradeKeeps" = some f) (hfn : Tryz.pinned.checked.prog.funcs[f]? = some fn) :
    false = Tryz.pinned.checked.prog.looks [] ∧ ∀ (j : Nat) t, fn.params[j]? = some t → Tryz.pinned.checked.prog.wantsStandIn t = false := by
  obtain rfl : f = 8 := Option.some.inj ((show Tryz.prog.funcNamed "bosun/bosunlaw20.UpgradeKeeps" = some 8 by kernel_rfl).symm.trans hf) |>.symm
  obtain rfl : fn = Tryz.f8 := (Option.some.inj (Tryz.func8.symm.trans hfn)).symm
  refine ⟨by kernel_rfl, fun j t ht => ?_⟩
  rw [Tryz.params8] at ht
  have h3 : t = 63 ∨ t = 66 := by
    rcases j with _ | _ | _ | j
    · exact .inl (by simpa using ht.symm)
    · exact .inl (by simpa using ht.symm)
    · exact .inr (by simpa using ht.symm)
    · simp at ht
  rcases h3 with rfl | rfl
  · exact (show Tryz.prog.wantsStandIn 63 = false by kernel_rfl)
  · exact (show Tryz.prog.wantsStandIn 66 = false by kernel_rfl)
theorem upgradekeeps : Rows.UpgradeKeepsUptoCardSaid :=
  Claim7.holds_tied_plain_at .later [] _ _ _ _ row_keeps (fun _ h => by cases h) (by kernel_rfl) (fun _ h => by cases h) upgradeKeepsUpto_row_tie rfl ⟨rfl, rfl⟩ (by kernel_rfl) rfl plain_keeps (by kernel_rfl)
end Go.Proofs.YtldncgelghcjeaaGreatDoor

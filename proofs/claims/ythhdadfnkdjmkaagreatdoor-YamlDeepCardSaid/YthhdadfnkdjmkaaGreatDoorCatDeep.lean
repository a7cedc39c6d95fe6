/-
  PROVED: for every number the given statement YamlDeep returns true, where the package-level variables that its row lists read as the program's text lays them (the card ties that); no other condition.
  The statement YamlDeep, walked.
-/
import Derived.Test.YthhdadfnkdjmkaaGreatDoorCat25
namespace Go.Proofs.YthhdadfnkdjmkaaGreatDoor.y
open Go.ChangeShapes Go.WideShapes Go.ChangeAt Go.RowKit
attribute [local go_sem ↓] Go.wp_at_zero Go.wp_at_succ
variable {w : World}
theorem parse_deep (k : Nat) (h1 : 28 ≤ k) (h2 : k ≤ 36) (w : World) (hE : Env w) : Calls Tryz.prog 7 #[.string (tx (dashL k ++ [49]))] w fun e w' =>
    (∃ m : v.M, e = .returned (.tuple #[m.val, .agg #[.int .i64 0, .int .i64 (if k ≤ 32 then 0 else 9)]]) ∧ m.plain = (if k ≤ 32 then dNest k else zV) ∧ m.New w.heap.size w') ∧ Fresh w w' := by
  have p := parse_any (dashL k ++ [49]) w (by rw [List.length_append, dashL_len]; simp; omega) hE
  rw [parse_dash k h1 h2] at p
  by_cases hk : k ≤ 32
  · rw [if_pos hk] at p; rw [if_pos hk, if_pos hk]; exact p
  · rw [if_neg hk] at p; rw [if_neg hk, if_neg hk]; exact p
set_option maxRecDepth 100000 in
set_option maxHeartbeats 2000000 in
theorem deep_main (x : Int) (h0 : 0 ≤ x) (w : World) (hE : Env w) : Calls Tryz.prog 5 #[.int .u8 x] w fun e w' => e = .returned (.bool true) ∧ Fresh w w' := by
  have HE := Lib.hid hE
  have HA : Hid (∀ W, Fresh w W → Calls Tryz.prog 6 #[] W fun e w' => e = .returned (.bool true) ∧ Fresh W w') := fun W f => awake_any W (hE.move f)
  clear hE
  obtain ⟨j, k, hj, hk, hx⟩ : ∃ j k : Nat, j < 9 ∧ k = 28 + j ∧ x.tmod 9 = (j : Int) := ⟨(x % 9).toNat, _, by omega, rfl, by rw [Int.tmod_eq_emod_of_nonneg h0]; omega⟩
  have hc9 : IntKind.i64.wrap ((j : Nat) : Int) = (j : Int) := IntWalk.i64_in _ (by omega)
  have hc28 : IntKind.i64.wrap (28 + ((j : Nat) : Int)) = (k : Int) := by rw [IntWalk.i64_in _ (by omega)]; omega
  have hk1 : 28 ≤ k := by omega
  have hk2 : k ≤ 36 := by omega
  clear hk
  go_enter Tryz.func5, Tryz.ntmps5
  go_wp2
  go_loop [4, 12] (fun a i => ∃ m : Nat, m ≤ k ∧ a = .string (tx (dashL m)) ∧ i = .int .i64 m) (fun _ i => k - (intOf i).toNat)
  case atStart => exact ⟨0, by omega, rfl, rfl⟩
  case round =>
    obtain ⟨m, hm, rfl, rfl⟩ := hrel
    have hsz : (tx (dashL m)).size = 2 * m := by rw [tx_size, dashL_len]
    have hq2 : ¬ 9223372036854775807 < (tx (dashL m)).size + 2 := by omega
    have hq1 : ¬ 9223372036854775807 < (tx (dashL m)).size + 1 := by omega
    clear hsz
    by_cases hlt : m < k
    · have hlt' : (m : Int) < (k : Int) := by omega
      have hs : tx (dashL m) ++ (⟨#[45, 32]⟩ : ByteArray) = tx (dashL (m + 1)) := tx_app _ [45, 32]
      go_wp2
      exact ⟨⟨m + 1, by omega, rfl, by go_num⟩, by simp [intOf]; omega⟩
    · obtain rfl : m = k := by omega
      have hs : tx (dashL m) ++ (⟨#[49]⟩ : ByteArray) = tx (dashL m ++ [49]) := tx_app _ [49]
      have HP := Lib.hid (parse_deep m hk1 hk2 w HE.out)
      go_wp2_with fail
      refine HP.out.mono ?_
      rintro e w1 ⟨⟨M, rfl, hp, hn⟩, hf1⟩
      have HPL := Lib.hid hp
      have HNW := Lib.hid hn
      have HF1 := Lib.hid hf1
      clear hp hn hf1
      obtain ⟨mk, mf, mn, ms, mla, mlc, ml, mka, mkc, mks⟩ := M
      dsimp only [v.M.val]
      by_cases h32 : m ≤ 32
      · rw [if_pos h32] at HPL
        rw [if_pos h32]
        have hg : ¬ (32 : Int) < (m : Int) := by omega
        have HTW : Hid (Two w1 ((w1.alloc (.cells #[.int .i64 mk, .bool mf, .int .i64 mn, .string ms, .slice mla ml.length mlc, .slice mka mks.length mkc] 27 (0, 0))).alloc (.cells #[.int .i64 0, .int .i64 0] 30 (0, 0))) (.mk mk mf mn ms mla mlc ml mka mkc mks) w1.heap.size 0) := two_new w1 (.mk mk mf mn ms mla mlc ml mka mkc mks) 0
        go_wp2_with fail
        generalize (w1.alloc (.cells #[.int .i64 mk, .bool mf, .int .i64 mn, .string ms, .slice mla ml.length mlc, .slice mka mks.length mkc] 27 (0, 0))).alloc (.cells #[.int .i64 0, .int .i64 0] 30 (0, 0)) = w0 at *
        generalize w1.heap.size = g at *
        refine (HA.out _ (HF1.out.trans HTW.out.fr)).mono ?_
        rintro e w2 ⟨rfl, hf2⟩
        have q1 := v.Fresh.at hf2 HTW.out.vb
        have q2 := v.Fresh.at hf2 HTW.out.mb
        obtain ⟨c0, c1, c2, c3, c4, c5⟩ := v.box6' q1
        have d0 : w2.cell? ⟨g + 1, 0, none⟩ = some (.int .i64 0) := cell_of_at q2 rfl
        have d1 : w2.cell? ⟨g + 1, 1, none⟩ = some (.int .i64 0) := cell_of_at q2 rfl
        have HF2 := Lib.hid ((HF1.out.trans HTW.out.fr).trans hf2)
        have HF12 := Lib.hid (HTW.out.fr.trans hf2)
        clear hf2 q1 q2 HTW
        go_wp2_with fail
        have HD : Hid (Calls Tryz.prog 17 #[v.mval mk mf mn ms mla ml.length mlc mka mks.length mkc] w2 fun e w' => e = .returned (.int .i64 (m : Int)) ∧ Fresh w2 w') := by
          have q := v.depth_any (.mk mk mf mn ms mla mlc ml mka mkc mks) w2 (HNW.out.move HF12.out).at (by rw [HPL.out, dNest_size]; omega)
          rw [HPL.out, dNest_depth] at q
          exact q
        refine HD.out.mono ?_
        rintro e w3 ⟨rfl, hf3⟩
        have HF3 := Lib.hid (HF2.out.trans hf3)
        clear hf3
        go_wp2
        go_ret
        exact ⟨rfl, HF3.out⟩
      · rw [if_neg h32]
        have hg : (32 : Int) < (m : Int) := by omega
        have HTW : Hid (Two w1 ((w1.alloc (.cells #[.int .i64 mk, .bool mf, .int .i64 mn, .string ms, .slice mla ml.length mlc, .slice mka mks.length mkc] 27 (0, 0))).alloc (.cells #[.int .i64 0, .int .i64 9] 30 (0, 0))) (.mk mk mf mn ms mla mlc ml mka mkc mks) w1.heap.size 9) := two_new w1 (.mk mk mf mn ms mla mlc ml mka mkc mks) 9
        go_wp2_with fail
        generalize (w1.alloc (.cells #[.int .i64 mk, .bool mf, .int .i64 mn, .string ms, .slice mla ml.length mlc, .slice mka mks.length mkc] 27 (0, 0))).alloc (.cells #[.int .i64 0, .int .i64 9] 30 (0, 0)) = w0 at *
        generalize w1.heap.size = g at *
        refine (HA.out _ (HF1.out.trans HTW.out.fr)).mono ?_
        rintro e w2 ⟨rfl, hf2⟩
        have q1 := v.Fresh.at hf2 HTW.out.vb
        have q2 := v.Fresh.at hf2 HTW.out.mb
        obtain ⟨c0, c1, c2, c3, c4, c5⟩ := v.box6' q1
        have d0 : w2.cell? ⟨g + 1, 0, none⟩ = some (.int .i64 0) := cell_of_at q2 rfl
        have d1 : w2.cell? ⟨g + 1, 1, none⟩ = some (.int .i64 9) := cell_of_at q2 rfl
        have HF2 := Lib.hid ((HF1.out.trans HTW.out.fr).trans hf2)
        have HF12 := Lib.hid (HTW.out.fr.trans hf2)
        clear hf2 q1 q2 HTW
        go_wp2_with fail
        go_ret
        exact ⟨rfl, HF2.out⟩
end Go.Proofs.YthhdadfnkdjmkaaGreatDoor.y
namespace Go.Proofs.YthhdadfnkdjmkaaGreatDoor.y.yamlDeep
open Go.ChangeShapes Go.WideShapes Go.ChangeAt Go.RowKit Go.Shelf
open Go.ChangeMaps (open_string shut_string)
set_option linter.unusedVariables false

theorem witness_row (os : Os) {H : Type} (enc : TypeId × Value → H) :
    (OpenSpec.ofChange Rows.yamlDeepSpec).preRow enc Tryz.prog Tryz.f5 Rows.yamlDeepRow.domain false Rows.yamlDeepRow.laid ((laidWorld os).forCall (fun _ _ => 0) ⟨#[], #[.int .u8 0], []⟩).memory #[.int .u8 0] := by
  have hw : (DataW.whole enc Tryz.prog ((laidWorld os).forCall (fun _ _ => 0) ⟨#[], #[.int .u8 0], []⟩).memory Tryz.f5.params.toList (OpenSpec.ofChange Rows.yamlDeepSpec).vars false #[Value.int .u8 0].toList 8).map (fun x => (x.1, x.2.1)) =
      some ([.lit (.int .u8 0)], []) := by kernel_rfl
  obtain ⟨⟨x1, x2, x3⟩, hx, hx1⟩ := Option.map_eq_some_iff.1 hw
  simp only [Prod.mk.injEq] at hx1
  obtain ⟨rfl, rfl⟩ := hx1
  exact OpenSpec.preRow_of_cond 8 hx (by kernel_rfl) (fun k hk => by cases hk) (by kernel_rfl) (laid_met os _)
set_option maxRecDepth 100000 in
set_option maxHeartbeats 2000000 in
theorem lifted (os : Os) (started : os.Started) (H : Type) (enc : TypeId × Value → H) (F : Stop.Interp) :
    ReturnsInHanded {} Tryz.checked os 5 .any ((OpenSpec.ofChange Rows.yamlDeepSpec).preRow enc Tryz.prog Tryz.f5 Rows.yamlDeepRow.domain false Rows.yamlDeepRow.laid) (((OpenSpec.ofChange Rows.yamlDeepSpec).at F).post enc Tryz.prog Tryz.f5 false true false false) := by
  refine returnsInHanded_of_row (C := Tryz.checked) (s := OpenSpec.ofChange Rows.yamlDeepSpec) lown started (by kernel_rfl) Tryz.func5
    (witness_row_atRef (enc := enc) (C := Tryz.checked) false (laidWorld os) #[.int .u8 0] rfl (by kernel_rfl) (by kernel_rfl) (by kernel_rfl) (witness_row os enc)) ?_
  intro W base args ds gs before hval0 hW _ _ hsz hL0 hSH _
  have hL : laidMet Tryz.prog theLaid W := hL0
  have hval : ∀ (j : Nat) t v, Tryz.f5.params[j]? = some t → args[j]? = some v → Value.okWide Tryz.prog W .any base t v := hval0
  have hW' := hW
  obtain ⟨p, q, hA0, hV0, rfl, _, _⟩ := hW
  have hA : DataW.TrodAll enc Tryz.prog W 0 (fun _ => true) true Tryz.f5.params.toList args.toList ds p := hA0
  rw [Tryz.params5] at hA hval
  obtain ⟨v0, vs0, d0, ds0, p0, q0, hargs, rfl, rfl, h0, r0⟩ := trodAll_cons hA
  obtain ⟨rfl, rfl, rfl⟩ := trodAll_nil r0
  obtain rfl : args = #[v0] := by cases args; simp_all
  obtain ⟨rfl, rfl⟩ := trodVars_none hV0
  obtain ⟨a0, rfl, rfl, rfl, w0⟩ := open_int Tryz.underlying5 (hval 0 5 v0 rfl rfl) h0
  have h00 : 0 ≤ a0 := by
    have h := w0
    simp only [Lit.wf, Bool.and_eq_true, decide_eq_true_eq] at h
    exact h.1
  refine (deep_main a0 h00 W (the_env hL hSH)).mono ?_
  rintro e W' ⟨rfl, hg⟩
  have e1 : ((OpenSpec.ofChange Rows.yamlDeepSpec).at F).fn H ([.lit (.int .u8 a0)] ++ []) = { results := [.lit (.bool true)], args := [.lit (.int .u8 a0)] } := rfl
  refine ⟨_, rfl, _, _, _, [], [] ++ [], [], hW', ?_, ?_, ?_, hg.frame _, fun h => by cases h⟩
  · rw [e1]; exact trodAll_mk1 (shut_bool Tryz.underlying4 _)
  · rw [e1]; exact (trodAll_cons_mk (shut_int Tryz.underlying5 w0) trodAll_mk0)
  · rw [e1]; rfl
theorem row_holds : Rows.YamlDeepSaid :=
  OpenClaim.holds_of_cond 5 Tryz.f5 rfl rfl rfl rfl rfl rfl rfl ⟨rfl, rfl, rfl, rfl, rfl⟩ rfl rfl rfl rfl rfl (by kernel_rfl) Tryz.func5 (by kernel_rfl)
    (of_decide_eq_true (by kernel_rfl)) (by unfold Func.isWrapper; first | (rw [if_neg (of_decide_eq_false (by kernel_rfl))]; exact ⟨rfl, rfl⟩) | (rw [if_pos (by decide +kernel)]; kernel_rfl))
    (fun os started H enc _ F0 => by rw [OpenClaim.pre_eq_preRow]; exact lifted os started H enc F0)
theorem yamldeep : Rows.YamlDeepCardSaid :=
  Claim7.holds_tied_plain_at .later [] [.data, .data, .data, .data, .sentinel, .sentinel, .pinned] true (true, "a5524d974ff846e7f059c52b88a66d16522f13caf2dcb8270683f243fed1b86d") true
    row_holds (fun _ h => by cases h) (by kernel_rfl) (fun _ h => by cases h) yamlDeep_row_tie rfl ⟨rfl, rfl⟩ (by kernel_rfl) rfl
    (fun f fn hf hfn => by
      obtain rfl : f = 5 := Option.some.inj ((show Tryz.prog.funcNamed "bosun/bosunlaw11.YamlDeep" = some 5 by kernel_rfl).symm.trans hf) |>.symm
      obtain rfl : fn = Tryz.f5 := (Option.some.inj (Tryz.func5.symm.trans hfn)).symm
      exact ⟨by kernel_rfl, fun j t ht => by
        rw [Tryz.params5] at ht
        have h3 : t = 5 := by
          rcases j with _ | j
          · simpa using ht.symm
          · simp at ht
        subst h3
        exact (show Tryz.prog.wantsStandIn 5 = false by kernel_rfl)⟩)
    (by kernel_rfl)
end Go.Proofs.YthhdadfnkdjmkaaGreatDoor.y.yamlDeep

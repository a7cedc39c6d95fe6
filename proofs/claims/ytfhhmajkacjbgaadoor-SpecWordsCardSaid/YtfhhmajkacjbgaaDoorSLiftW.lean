/-
  PROVED: for every number and every text the given statement SpecWords returns true, where the library's two UTF-8 tables and the package's two tables of words read as the program's text lays them (the card ties that); no other condition.
-/
import Derived.Test.YtfhhmajkacjbgaaDoorSLift
import Derived.Test.YtfhhmajkacjbgaaDoorSWordsLaw
namespace Go.Proofs.YtfhhmajkacjbgaaDoor
open Go.ChangeShapes Go.WideShapes Go.ChangeAt Go.RowKit Go.Shelf
open Go.ChangeMaps (open_string shut_string)
set_option linter.unusedVariables false

theorem cells_3str : Tryd.prog.cellsOf 79 = 3 := by kernel_rfl
theorem cells_2str : Tryd.prog.cellsOf 80 = 2 := by kernel_rfl
/-- A cell of a listed array of texts. -/
theorem str_cell {W : World} {name : String} {g0 t0 n : Nat} {ds : List (DataW Unit)} (h : Lib.VarReads Tryd.prog W name (.agg ds)) (hg : Tryd.prog.globalNamed name = some g0) (ht : (Tryd.prog.globals[g0]?).map (·.type) = some t0) (hu : Tryd.prog.underlying t0 = some (.array n 9))
    (i : Nat) (hi : i < n) (s : ByteArray) (hd : ds[i]? = some (.lit (.string s.data.toList))) : W.cell? ⟨g0, i, none⟩ = some (.string s) := by
  obtain ⟨g, t, cs, fuel, p, h1, h2, hvar, h4⟩ := h
  obtain rfl := Option.some.inj (hg.symm.trans h1)
  obtain rfl := Option.some.inj (ht.symm.trans h2)
  obtain ⟨fuel', d, q, hdi, he⟩ := Lib.array_elem hu h4 i hi
  rw [hd] at hdi
  obtain rfl := Option.some.inj hdi
  rw [cells_str] at he
  obtain ⟨s', e1, e2, _⟩ := DataW.trod_string Tryd.underlying9 he
  simp only [Prod.mk.injEq, DataW.lit.injEq, Lit.string.injEq] at e2
  have e3 : s = s' := ByteArray.ext (Array.toList_inj.1 e2.1)
  subst e3
  have e4 := congrArg (·[0]?) e1
  simp only [List.getElem?_take, List.getElem?_drop] at e4
  rw [World.var?_cell h1 hvar i, ← Array.getElem?_toList]
  simpa using e4
theorem words_tabs {W : World} (hL : laidMet Tryd.prog Rows.specWordsRow.laid W) : UTabs W ∧ Words W := by
  refine ⟨utf8Tabs_of_readsT u8types ⟨by kernel_rfl, by kernel_rfl, by kernel_rfl, by kernel_rfl, by kernel_rfl, by kernel_rfl, by kernel_rfl⟩
    (by rw [← first_eq]; exact Lib.laidMet.reads hL (.tail _ (.tail _ (.tail _ (.head _))))) (by rw [← accept_eq]; exact Lib.laidMet.reads hL (.head _)), ?_⟩
  have hr : Lib.VarReads Tryd.prog W "bosun/spec.restartWords" Rows.laid_bosun_spec_restartWords := Lib.laidMet.reads hL (.tail _ (.head _))
  have hp : Lib.VarReads Tryd.prog W "bosun/spec.protoWords" Rows.laid_bosun_spec_protoWords := Lib.laidMet.reads hL (.tail _ (.tail _ (.head _)))
  exact ⟨str_cell hr (by kernel_rfl) (by kernel_rfl) Tryd.underlying79 0 (by decide) _ rfl, str_cell hr (by kernel_rfl) (by kernel_rfl) Tryd.underlying79 1 (by decide) _ rfl, str_cell hr (by kernel_rfl) (by kernel_rfl) Tryd.underlying79 2 (by decide) _ rfl, str_cell hp (by kernel_rfl) (by kernel_rfl) Tryd.underlying80 0 (by decide) _ rfl, str_cell hp (by kernel_rfl) (by kernel_rfl) Tryd.underlying80 1 (by decide) _ rfl⟩
/-- The witness: the settled world, the tables as their text lays them. -/
noncomputable def laidWorldW (os : Os) : World :=
  let w0 := laidWorld os
  { w0 with heap := putCells (putCells w0.heap 0 #[.string ⟨#[97, 108, 119, 97, 121, 115]⟩, .string ⟨#[111, 110, 45, 102, 97, 105, 108, 117, 114, 101]⟩, .string ⟨#[110, 101, 118, 101, 114]⟩]) 1 #[.string ⟨#[116, 99, 112]⟩, .string ⟨#[117, 100, 112]⟩] }
theorem laid_met_w (os : Os) (args : Array Value) : laidMet Tryd.prog Rows.specWordsRow.laid ((laidWorldW os).forCall (fun _ _ => 0) ⟨#[], args, []⟩).memory :=
  (LaidIn.of_run (l := [("unicode/utf8.acceptRanges", Rows.laid_unicode_utf8_acceptRanges), ("bosun/spec.restartWords", Rows.laid_bosun_spec_restartWords), ("bosun/spec.protoWords", Rows.laid_bosun_spec_protoWords), ("unicode/utf8.first", Rows.laid_unicode_utf8_first)]) [3, 0, 1, 2] 8 (by kernel_rfl) (by kernel_rfl) (by kernel_rfl) (by kernel_rfl)).met
theorem witness_words (os : Os) {H : Type} (enc : TypeId × Value → H) :
    (OpenSpec.ofChange Rows.specWordsSpec).preRow enc Tryd.prog Tryd.f4 Rows.specWordsRow.domain false Rows.specWordsRow.laid ((laidWorldW os).forCall (fun _ _ => 0) ⟨#[], #[.int .i64 0, .string ⟨#[]⟩], []⟩).memory #[.int .i64 0, .string ⟨#[]⟩] := by
  have hw : (DataW.whole enc Tryd.prog ((laidWorldW os).forCall (fun _ _ => 0) ⟨#[], #[.int .i64 0, .string ⟨#[]⟩], []⟩).memory Tryd.f4.params.toList (OpenSpec.ofChange Rows.specWordsSpec).vars false #[Value.int .i64 0, Value.string ⟨#[]⟩].toList 8).map (fun x => (x.1, x.2.1)) =
      some ([.lit (.int .i64 0), .lit (.string [])], []) := by kernel_rfl
  obtain ⟨⟨x1, x2, x3⟩, hx, hx1⟩ := Option.map_eq_some_iff.1 hw
  simp only [Prod.mk.injEq] at hx1
  obtain ⟨rfl, rfl⟩ := hx1
  exact OpenSpec.preRow_of_cond 8 hx (by kernel_rfl) (fun k hk => by cases hk) (by kernel_rfl) (laid_met_w os _)
set_option maxRecDepth 100000 in
set_option maxHeartbeats 2000000 in
theorem lifted_words (os : Os) (started : os.Started) (H : Type) (enc : TypeId × Value → H) (F : Stop.Interp) :
    ReturnsInHanded {} Tryd.checked os 4 .any ((OpenSpec.ofChange Rows.specWordsSpec).preRow enc Tryd.prog Tryd.f4 Rows.specWordsRow.domain false Rows.specWordsRow.laid) (((OpenSpec.ofChange Rows.specWordsSpec).at F).post enc Tryd.prog Tryd.f4 false true false false) := by
  refine returnsInHanded_of_row (C := Tryd.checked) (s := OpenSpec.ofChange Rows.specWordsSpec) own started (by kernel_rfl) Tryd.func4
    (witness_row_atRef (enc := enc) (C := Tryd.checked) false (laidWorldW os) #[.int .i64 0, .string ⟨#[]⟩] rfl (by kernel_rfl) (by kernel_rfl) (by kernel_rfl) (witness_words os enc)) ?_
  intro W base args ds gs before hval0 hW _ _ hsz hL _ _
  have hval : ∀ (j : Nat) t v, Tryd.f4.params[j]? = some t → args[j]? = some v → Value.okWide Tryd.prog W .any base t v := hval0
  have hW' := hW
  obtain ⟨p, q, hA0, hV0, rfl, _, _⟩ := hW
  have hA : DataW.TrodAll enc Tryd.prog W 0 (fun _ => true) true Tryd.f4.params.toList args.toList ds p := hA0
  rw [Tryd.params4] at hA hval
  obtain ⟨v0, vs0, d0, ds0, p0, q0, hargs, rfl, rfl, h0, r0⟩ := trodAll_cons hA
  obtain ⟨v1, vs1, d1, ds1, p1, q1, rfl, rfl, rfl, h1, r1⟩ := trodAll_cons r0
  obtain ⟨rfl, rfl, rfl⟩ := trodAll_nil r1
  obtain rfl : args = #[v0, v1] := by cases args; simp_all
  obtain ⟨rfl, rfl⟩ := trodVars_none hV0
  obtain ⟨n0, rfl, rfl, rfl, wn⟩ := open_int Tryd.underlying3 (hval 0 3 v0 rfl rfl) h0
  obtain ⟨a0, rfl, rfl, rfl, w0⟩ := open_string Tryd.underlying9 (hval 1 9 v1 rfl rfl) h1
  obtain ⟨hT, hWd⟩ := words_tabs hL
  refine (words_walk n0 a0 W hT hWd wn w0).mono ?_
  rintro e W' ⟨rfl, hg⟩
  have e1 : ((OpenSpec.ofChange Rows.specWordsSpec).at F).fn H ([.lit (.int .i64 n0), .lit (.string a0.data.toList)] ++ []) = { results := [.lit (.bool true)], args := [.lit (.int .i64 n0), .lit (.string a0.data.toList)] } := rfl
  refine ⟨_, rfl, _, _, _, [], [] ++ ([] ++ []), [], hW', ?_, ?_, ?_, hg.frame _, fun h => by cases h⟩
  · rw [e1]; exact trodAll_mk1 (shut_bool Tryd.underlying4 _)
  · rw [e1]; exact trodAll_cons_mk (shut_int Tryd.underlying3 wn) (trodAll_cons_mk (shut_string Tryd.underlying9 w0) trodAll_mk0)
  · rw [e1]; rfl
theorem words_row : Rows.SpecWordsSaid :=
  OpenClaim.holds_of_cond 4 Tryd.f4 rfl rfl rfl rfl rfl rfl rfl ⟨rfl, rfl, rfl, rfl, rfl⟩ rfl rfl rfl rfl rfl (by kernel_rfl) Tryd.func4 (by kernel_rfl)
    (of_decide_eq_true (by kernel_rfl)) (by unfold Func.isWrapper; first | (rw [if_neg (of_decide_eq_false (by kernel_rfl))]; exact ⟨rfl, rfl⟩) | (rw [if_pos (by decide +kernel)]; kernel_rfl))
    (fun os started H enc _ F0 => by rw [OpenClaim.pre_eq_preRow]; exact lifted_words os started H enc F0)
theorem plain_words (f : FuncId) (fn : Func) (hf : Tryd.pinned.checked.prog.funcNamed "bosun/bosunlaw14.SpecWords" = some f) (hfn : Tryd.pinned.checked.prog.funcs[f]? = some fn) :
    false = Tryd.pinned.checked.prog.looks [] ∧ ∀ (j : Nat) t, fn.params[j]? = some t → Tryd.pinned.checked.prog.wantsStandIn t = false := by
  obtain rfl : f = 4 := Option.some.inj ((show Tryd.prog.funcNamed "bosun/bosunlaw14.SpecWords" = some 4 by kernel_rfl).symm.trans hf) |>.symm
  obtain rfl : fn = Tryd.f4 := (Option.some.inj (Tryd.func4.symm.trans hfn)).symm
  refine ⟨by kernel_rfl, fun j t ht => ?_⟩
  rw [Tryd.params4] at ht
  have h3 : t = 3 ∨ t = 9 := by
    rcases j with _ | _ | j
    · simp at ht; exact .inl ht.symm
    · simp at ht; exact .inr ht.symm
    · simp at ht
  rcases h3 with rfl | rfl
  · exact (show Tryd.prog.wantsStandIn 3 = false by kernel_rfl)
  · exact (show Tryd.prog.wantsStandIn 9 = false by kernel_rfl)
theorem specwords : Rows.SpecWordsCardSaid :=
  Claim7.holds_tied_plain_at .later [] _ _ _ _ words_row (fun _ h => by cases h) (by kernel_rfl) (fun _ h => by cases h) specWords_row_tie rfl ⟨rfl, rfl⟩ (by kernel_rfl) rfl plain_words (by kernel_rfl)
end Go.Proofs.YtfhhmajkacjbgaaDoor

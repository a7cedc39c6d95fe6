/-
  PROVED: for every two texts the given statement UtfBack returns true, where the library's two UTF-8 tables read as the program's text lays them (the card ties that); no other condition.
-/
import Derived.Test.YtbofohfnbioclaaDoorCards
import Derived.Test.YtbofohfnbioclaaDoorTie
import Derived.Test.YtbofohfnbioclaaDoorPieces
import Derived.Lib.LaidIn
import Derived.Lib.LaidU8T
import Derived.Deep.DeepHandedRow
import Derived.Deep.DeepWitnessRowRef
import Derived.SevenTiedAt
import Derived.Carry
import Derived.ChangeOld
namespace Go.Proofs.YtbofohfnbioclaaDoor.utfBack
open Go.ChangeShapes Go.WideShapes Go.ChangeAt Go.RowKit Go.Shelf
open Go.ChangeMaps (open_string shut_string)
set_option linter.unusedVariables false
attribute [local go_sem ↓] Go.wp_at_zero Go.wp_at_succ

theorem bs_data (s : ByteArray) : bs s.data.toList = s := by
  apply ByteArray.ext
  simp [bs]
theorem quoted_size (l : List UInt8) : (⟨(quoted l).toArray⟩ : ByteArray).size = (qL l).length + 2 := by
  show (bs (quoted l)).size = _
  rw [bs_size, quoted]; simp
theorem quoted_more (l : List UInt8) (b : ByteArray) : (⟨(quoted l).toArray⟩ : ByteArray) ++ b = bs (34 :: (qL l ++ 34 :: b.data.toList)) := by
  apply ByteArray.ext
  apply Array.toList_inj.1
  simp [bs, quoted]
theorem back_any (s behind : ByteArray) (w : World) (hT : Tabs w) : Calls Tryd.prog 4 #[.string s, .string behind] w fun e w' => e = .returned (.bool true) ∧ Fresh w w' := by
  have HT := Lib.hid hT
  clear hT
  have HA : Hid (∀ W, Tabs W → Calls Tryd.prog 5 #[] W fun e w' => e = .returned (.bool true) ∧ Fresh W w') := fun W h => awake_any W h
  by_cases hs : 6000 < s.size
  · have hs' : (6000 : Int) < (s.size : Int) := by omega
    go_enter Tryd.func4, Tryd.ntmps4
    go_wp2_with fail
    refine (HA.out _ HT.out).mono ?_
    rintro e w1 ⟨rfl, hf1⟩
    have HF1 := Lib.hid hf1
    clear hf1
    go_wp2
    go_ret
    exact ⟨rfl, HF1.out⟩
  have hs' : ¬ (6000 : Int) < (s.size : Int) := by omega
  by_cases hb : 100 < behind.size
  · have hb' : (100 : Int) < (behind.size : Int) := by omega
    go_enter Tryd.func4, Tryd.ntmps4
    go_wp2_with fail
    refine (HA.out _ HT.out).mono ?_
    rintro e w1 ⟨rfl, hf1⟩
    have HF1 := Lib.hid hf1
    clear hf1
    go_wp2
    go_ret
    exact ⟨rfl, HF1.out⟩
  have hb' : ¬ (100 : Int) < (behind.size : Int) := by omega
  have HU := Lib.hid (fun W => utf8_any s W (by omega))
  cases hok : Lib.validD s.data.toList with
  | false =>
    rw [hok] at HU
    go_enter Tryd.func4, Tryd.ntmps4
    go_wp2_with fail
    refine (HU.out _).mono ?_
    rintro e w' ⟨rfl, rfl⟩
    go_wp2_with fail
    refine (HA.out _ HT.out).mono ?_
    rintro e w1 ⟨rfl, hf1⟩
    have HF1 := Lib.hid hf1
    clear hf1
    go_wp2
    go_ret
    exact ⟨rfl, HF1.out⟩
  | true =>
    rw [hok] at HU
    have hun := un_q s.data.toList.length s.data.toList (Nat.le_refl _) hok
    have hql := qL_len s.data.toList
    have hsl : s.data.toList.length = s.size := by simp
    have hbl : behind.data.toList.length = behind.size := by simp
    have HQ := Lib.hid (fun W => quote_any s W (by omega))
    have HX := Lib.hid (fun W h => unquote_any (qL s.data.toList) s.data.toList behind.data.toList W hun (by omega) (by omega) h)
    have hadd : ∀ W : World, (Op.stringOp .add ⟨(quoted s.data.toList).toArray⟩ behind).run Tryd.prog W = .ok (.string (bs (34 :: (qL s.data.toList ++ 34 :: behind.data.toList)))) W := fun W => by
      rw [run_string_add_sum W _ _ (by rw [quoted_size]; omega), quoted_more]
    have HSZ : Hid ((⟨(quoted s.data.toList).toArray⟩ : ByteArray).size = (qL s.data.toList).length + 2) := quoted_size _
    have hfit : (⟨(quoted s.data.toList).toArray⟩ : ByteArray).size + behind.size ≤ 1000000 := by rw [quoted_size]; omega
    have hqn : (((qL s.data.toList).length : Int) + 2 == ((⟨(quoted s.data.toList).toArray⟩ : ByteArray).size : Int)) = true := by rw [quoted_size]; simp
    have HR : Hid (unqRes (qL s.data.toList) s.data.toList = if s.size ≤ 4096 then .returned (.tuple #[.string s, .int .i64 (((qL s.data.toList).length : Int) + 2), .int .i64 0]) else .returned (.tuple #[.string ⟨#[]⟩, .int .i64 0, .int .i64 2])) := by
      rw [Hid, unqRes, bs_data, hsl]
    rw [HR.out] at HX
    generalize (⟨(quoted s.data.toList).toArray⟩ : ByteArray) = q at *
    generalize bs (34 :: (qL s.data.toList ++ 34 :: behind.data.toList)) = z at *
    generalize (qL s.data.toList).length = n at *
    clear hok hun hql hsl hbl HR HSZ
    by_cases h4 : s.size ≤ 4096
    · rw [if_pos h4] at HX
      have h4' : ¬ (4096 : Int) < (s.size : Int) := by omega
      clear h4
      go_enter Tryd.func4, Tryd.ntmps4
      go_wp2_with fail
      refine (HU.out _).mono ?_
      rintro e w' ⟨rfl, rfl⟩
      go_wp2_with fail
      refine (HQ.out _).mono ?_
      rintro e w1 ⟨rfl, hf1⟩
      have HF1 := Lib.hid hf1
      clear hf1
      go_wp2_with fail
      refine (HX.out _ (HT.out.move HF1.out)).mono ?_
      rintro e w2 ⟨rfl, hf2⟩
      have HF2 := Lib.hid (HF1.out.trans hf2)
      clear hf2
      go_wp2_with fail
      refine (HA.out _ (HT.out.move HF2.out)).mono ?_
      rintro e w3 ⟨rfl, hf3⟩
      have HF3 := Lib.hid (HF2.out.trans hf3)
      clear hf3
      go_wp2
      go_ret
      exact ⟨rfl, HF3.out⟩
    · rw [if_neg h4] at HX
      have h4' : (4096 : Int) < (s.size : Int) := by omega
      clear h4
      go_enter Tryd.func4, Tryd.ntmps4
      go_wp2_with fail
      refine (HU.out _).mono ?_
      rintro e w' ⟨rfl, rfl⟩
      go_wp2_with fail
      refine (HQ.out _).mono ?_
      rintro e w1 ⟨rfl, hf1⟩
      have HF1 := Lib.hid hf1
      clear hf1
      go_wp2_with fail
      refine (HX.out _ (HT.out.move HF1.out)).mono ?_
      rintro e w2 ⟨rfl, hf2⟩
      have HF2 := Lib.hid (HF1.out.trans hf2)
      clear hf2
      go_wp2_with fail
      refine (HA.out _ (HT.out.move HF2.out)).mono ?_
      rintro e w3 ⟨rfl, hf3⟩
      have HF3 := Lib.hid (HF2.out.trans hf3)
      clear hf3
      go_wp2
      go_ret
      exact ⟨rfl, HF3.out⟩
theorem own : ownKnob Tryd.prog.godebug = none := by kernel_rfl
theorem laidOut : laidOutB Tryd.prog = true := by kernel_rfl
theorem first_eq : Rows.laid_unicode_utf8_first = Lib.firstData := by kernel_rfl
theorem accept_eq : (Rows.laid_unicode_utf8_acceptRanges : DataW Unit) = Lib.acceptData := by kernel_rfl
theorem u8types : U8Types Tryd.prog Tryd.laysValid_ren := U8Types.of196 Tryd.laysValid
def putCells (h : Array Obj) (g : Nat) (cs : Array Value) : Array Obj := h.modify g fun o => match o with
  | .cells _ t frozen => .cells cs t frozen
  | o => o
/-- The witness: the settled world, both tables as their text lays them. -/
noncomputable def laidWorld (os : Os) : World :=
  let w0 := World.holding Tryd.prog os ⟨#[], #[], []⟩
  { w0 with heap := putCells (putCells w0.heap 0 (Lib.firstTab.map fun z => Value.int .u8 z).toArray) 1 ((List.range 16).flatMap fun i => [Value.int .u8 (Lib.accLo i), Value.int .u8 (Lib.accHi i)]).toArray }
theorem laid_met (os : Os) (args : Array Value) : laidMet Tryd.prog Rows.utfBackRow.laid ((laidWorld os).forCall (fun _ _ => 0) ⟨#[], args, []⟩).memory :=
  (LaidIn.of_run (l := [("unicode/utf8.acceptRanges", Rows.laid_unicode_utf8_acceptRanges), ("unicode/utf8.first", Rows.laid_unicode_utf8_first)]) [1, 0] 8 (by kernel_rfl) (by kernel_rfl) (by kernel_rfl) (by kernel_rfl)).met
theorem witness_row (os : Os) {H : Type} (enc : TypeId × Value → H) :
    (OpenSpec.ofChange Rows.utfBackSpec).preRow enc Tryd.prog Tryd.f4 Rows.utfBackRow.domain false Rows.utfBackRow.laid ((laidWorld os).forCall (fun _ _ => 0) ⟨#[], #[.string ⟨#[]⟩, .string ⟨#[]⟩], []⟩).memory #[.string ⟨#[]⟩, .string ⟨#[]⟩] := by
  have hw : (DataW.whole enc Tryd.prog ((laidWorld os).forCall (fun _ _ => 0) ⟨#[], #[.string ⟨#[]⟩, .string ⟨#[]⟩], []⟩).memory Tryd.f4.params.toList (OpenSpec.ofChange Rows.utfBackSpec).vars false #[Value.string ⟨#[]⟩, Value.string ⟨#[]⟩].toList 8).map (fun x => (x.1, x.2.1)) =
      some ([.lit (.string []), .lit (.string [])], []) := by kernel_rfl
  obtain ⟨⟨x1, x2, x3⟩, hx, hx1⟩ := Option.map_eq_some_iff.1 hw
  simp only [Prod.mk.injEq] at hx1
  obtain ⟨rfl, rfl⟩ := hx1
  exact OpenSpec.preRow_of_cond 8 hx (by kernel_rfl) (fun k hk => by cases hk) (by kernel_rfl) (laid_met os _)
theorem utf8_tabs {W : World} (hL : laidMet Tryd.prog Rows.utfBackRow.laid W) : Tabs W :=
  utf8Tabs_of_readsT u8types ⟨by kernel_rfl, by kernel_rfl, by kernel_rfl, by kernel_rfl, by kernel_rfl, by kernel_rfl, by kernel_rfl⟩
    (by rw [← first_eq]; exact Lib.laidMet.reads hL (.tail _ (.head _))) (by rw [← accept_eq]; exact Lib.laidMet.reads hL (.head _))
set_option maxRecDepth 100000 in
set_option maxHeartbeats 2000000 in
theorem lifted (os : Os) (started : os.Started) (H : Type) (enc : TypeId × Value → H) (F : Stop.Interp) :
    ReturnsInHanded {} Tryd.checked os 4 .any ((OpenSpec.ofChange Rows.utfBackSpec).preRow enc Tryd.prog Tryd.f4 Rows.utfBackRow.domain false Rows.utfBackRow.laid) (((OpenSpec.ofChange Rows.utfBackSpec).at F).post enc Tryd.prog Tryd.f4 false true false false) := by
  refine returnsInHanded_of_row (C := Tryd.checked) (s := OpenSpec.ofChange Rows.utfBackSpec) own started (by kernel_rfl) Tryd.func4
    (witness_row_atRef (enc := enc) (C := Tryd.checked) false (laidWorld os) #[.string ⟨#[]⟩, .string ⟨#[]⟩] rfl (by kernel_rfl) (by kernel_rfl) (by kernel_rfl) (witness_row os enc)) ?_
  intro W base args ds gs before hval0 hW _ _ hsz hL _ _
  have hval : ∀ (j : Nat) t v, Tryd.f4.params[j]? = some t → args[j]? = some v → Value.okWide Tryd.prog W .any base t v := hval0
  have hW' := hW
  obtain ⟨p, q, hA0, hV0, rfl, _, _⟩ := hW
  have hA : DataW.TrodAll enc Tryd.prog W 0 (fun _ => true) true Tryd.f4.params.toList args.toList ds p := hA0
  rw [Tryd.params4] at hA hval
  obtain ⟨v0, vs0, d0, ds0, p0, q0, hargs, rfl, rfl, h0, r0⟩ := trodAll_cons hA
  obtain ⟨v1, vs1, d1, ds1, p1, q1, rfl, rfl, rfl, h1, r1⟩ := trodAll_cons r0
  obtain ⟨rfl, rfl, rfl⟩ := trodAll_nil r1
  obtain rfl : args = #[v0, v1] := by cases args; simp_all
  obtain ⟨rfl, rfl⟩ := trodVars_none hV0
  obtain ⟨a0, rfl, rfl, rfl, w0⟩ := open_string Tryd.underlying9 (hval 0 9 v0 rfl rfl) h0
  obtain ⟨a1, rfl, rfl, rfl, w1⟩ := open_string Tryd.underlying9 (hval 1 9 v1 rfl rfl) h1
  refine (back_any a0 a1 W (utf8_tabs hL)).mono ?_
  rintro e W' ⟨rfl, hg⟩
  have e1 : ((OpenSpec.ofChange Rows.utfBackSpec).at F).fn H ([.lit (.string a0.data.toList), .lit (.string a1.data.toList)] ++ []) = { results := [.lit (.bool true)], args := [.lit (.string a0.data.toList), .lit (.string a1.data.toList)] } := rfl
  refine ⟨_, rfl, _, _, _, [], [] ++ ([] ++ []), [], hW', ?_, ?_, ?_, hg.frame _, fun h => by cases h⟩
  · rw [e1]; exact trodAll_mk1 (shut_bool Tryd.underlying4 _)
  · rw [e1]; exact (trodAll_cons_mk (shut_string Tryd.underlying9 w0) (trodAll_cons_mk (shut_string Tryd.underlying9 w1) trodAll_mk0))
  · rw [e1]; rfl
theorem row_holds : Rows.UtfBackSaid :=
  OpenClaim.holds_of_cond 4 Tryd.f4 rfl rfl rfl rfl rfl rfl rfl ⟨rfl, rfl, rfl, rfl, rfl⟩ rfl rfl rfl rfl rfl (by kernel_rfl) Tryd.func4 (by kernel_rfl)
    (of_decide_eq_true (by kernel_rfl)) (by unfold Func.isWrapper; first | (rw [if_neg (of_decide_eq_false (by kernel_rfl))]; exact ⟨rfl, rfl⟩) | (rw [if_pos (by decide +kernel)]; kernel_rfl))
    (fun os started H enc _ F0 => by rw [OpenClaim.pre_eq_preRow]; exact lifted os started H enc F0)
theorem utfback : Rows.UtfBackCardSaid :=
  Claim7.holds_tied_plain_at .later [] [.data, .pinned] true (true, "21168155ef4501e61fac57f502945c8e8317ccf4e8c12c126ab2dfea164be09b") false
    row_holds (fun _ h => by cases h) (by kernel_rfl) (fun _ h => by cases h) utfBack_row_tie rfl ⟨rfl, rfl⟩ (by kernel_rfl) rfl
    (fun f fn hf hfn => by
      obtain rfl : f = 4 := Option.some.inj ((show Tryd.prog.funcNamed "bosun/bosunlaw06.UtfBack" = some 4 by kernel_rfl).symm.trans hf) |>.symm
      obtain rfl : fn = Tryd.f4 := (Option.some.inj (Tryd.func4.symm.trans hfn)).symm
      exact ⟨by kernel_rfl, fun j t ht => by
        rw [Tryd.params4] at ht
        have h3 : t = 9 := by
          rcases j with _ | _ | j
          · simpa using ht.symm
          · simpa using ht.symm
          · simp at ht
        subst h3
        exact (show Tryd.prog.wantsStandIn 9 = false by kernel_rfl)⟩)
    (by kernel_rfl)
end Go.Proofs.YtbofohfnbioclaaDoor.utfBack

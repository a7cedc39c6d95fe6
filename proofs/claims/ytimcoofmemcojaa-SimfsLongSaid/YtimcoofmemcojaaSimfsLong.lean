/-
  bosunlaw04.SimfsLong returns true, for both of its inputs: no condition.
-/
import Derived.Test.YtimcoofmemcojaaRows
import Derived.WalkKit
import Derived.ProofKit
import Derived.OpenShut
import Derived.ShutString
import Derived.Test.YtimcoofmemcojaaAwake
namespace Go.Proofs.Ytimcoofmemcojaa.simfsLong
open Go.ChangeShapes Go.WideShapes Go.ChangeAt Go.RowKit
open Go.Proofs.Ytimcoofmemcojaa

/-- A row of n zeros, made and turned into a text: in whatever world. -/
theorem made (n : Nat) (hn : n ≤ 10000000) : ∃ (M : Array Value) (z : ByteArray), z.size = n ∧ (∀ W : World, (Instr.makeSlice 46 (.int .i64 n) (.int .i64 n)).run Try.prog W = .ok (.slice (some ⟨W.heap.size, 0, none⟩) n n) (W.alloc (.cells M 5))) ∧
    ∀ W : World, (convert 46 9 (.slice (some ⟨W.heap.size, 0, none⟩) n n)).run Try.prog (W.alloc (.cells M 5)) = .ok (.string z) (W.alloc (.cells M 5)) := by
  refine ⟨madeCells #[.int .u8 0] n, ⟨(List.replicate n (0 : UInt8)).toArray⟩, by simp [ByteArray.size], fun W => run_make_row' (P := Try.prog) 46 5 (.int .u8 0) 1 Try.underlying46 info5 rfl .i64 .i64 n (by omega) (by omega) W, fun W => ?_⟩
  have hr := World.rowIs_made W (.int .u8 0) n 5
  have h := run_convert_bytes_back (P := Try.prog) (W.alloc (.cells (madeCells #[.int .u8 0] n) 5)) 46 9 5 ⟨W.heap.size, 0, none⟩ n (List.replicate n (0 : UInt8)) Try.underlying46 Try.underlying5 Try.underlying9 (fun j hj => by
    have e : (⟨W.heap.size, 0, none⟩ : Addr).add j = ⟨W.heap.size, j, none⟩ := by simp [Addr.add]; exact fun h => h.symm
    rw [e]
    have hj' : j < n := by simpa using hj
    rw [List.getElem_replicate]
    exact hr.cell hj')
  rw [List.length_replicate] at h
  exact h
set_option maxRecDepth 100000 in
set_option maxHeartbeats 1000000 in
theorem walk_more (w : World) : Calls Try.prog 4 #[.bool true] w fun e w' => e = .returned (.bool true) ∧ Fresh w w' := by
  obtain ⟨n, hn⟩ : ∃ n : Nat, n = 8388609 := ⟨_, rfl⟩
  obtain ⟨M, z, hz, hmk, hcv⟩ := made n (by omega)
  have hmk' : ∀ W : World, (Instr.makeSlice 46 (.int .i64 8388609) (.int .i64 8388609)).run Try.prog W = .ok (.slice (some ⟨W.heap.size, 0, none⟩) n n) (W.alloc (.cells M 5)) := fun W => by
    have := hmk W
    rw [show ((n : Nat) : Int) = 8388609 by omega] at this
    exact this
  have HZ : Hid (z.size = 8388609) := hz.trans hn
  clear hmk hz hn
  go_enter Try.func4, Try.ntmps4
  go_wp2_with fail
  refine (new_any w).mono ?_
  rintro e w1 ⟨rfl, hF1, hfr1⟩
  have F1 := Lib.hid ((hF1 w.heap.size (Nat.le_refl _)).move ((Fresh.refl w1).alloc (.cells M 5)))
  have K1 : Hid (Kept w.heap.size w (w1.alloc (.cells M 5))) := hfr1.kept.fresh ((Fresh.refl w1).alloc _)
  have hcv1 := hcv w1
  clear hF1 hfr1 hcv
  go_wp2_with fail
  refine (write_long F1.out rfl (by decide) (by decide) nmA z (by have := HZ.out; unfold maxLen; omega) nmA_ok (by have := HZ.out; omega)).mono ?_
  rintro e w2 ⟨rfl, hF2, hK2, _⟩
  have F2 := Lib.hid hF2
  have K2 := Lib.hid (K1.out.trans hK2)
  clear hF2 hK2 hcv1 hmk'
  go_wp2_with fail
  refine (awake_true w2).mono ?_
  rintro e w3 ⟨rfl, hfr3⟩
  have F3 := Lib.hid (F2.out.move hfr3)
  have K3 := Lib.hid (K2.out.fresh hfr3)
  clear hfr3
  go_wp2_with fail
  refine (steps_any F3.out).mono ?_
  rintro e w4 ⟨rfl, rfl⟩
  go_wp2_with fail
  refine (waiting_any F3.out).mono ?_
  rintro e w4 ⟨rfl, rfl⟩
  go_wp2
  go_ret
  exact ⟨rfl, K3.out.below (Nat.le_refl _)⟩
set_option maxRecDepth 100000 in
set_option maxHeartbeats 1000000 in
theorem walk_less (w : World) : Calls Try.prog 4 #[.bool false] w fun e w' => e = .returned (.bool true) ∧ Fresh w w' := by
  obtain ⟨n, hn⟩ : ∃ n : Nat, n = 8388608 := ⟨_, rfl⟩
  obtain ⟨M, z, hz, hmk, hcv⟩ := made n (by omega)
  have hmk' : ∀ W : World, (Instr.makeSlice 46 (.int .i64 8388608) (.int .i64 8388608)).run Try.prog W = .ok (.slice (some ⟨W.heap.size, 0, none⟩) n n) (W.alloc (.cells M 5)) := fun W => by
    have := hmk W
    rw [show ((n : Nat) : Int) = 8388608 by omega] at this
    exact this
  have HZ : Hid (z.size = 8388608) := hz.trans hn
  clear hmk hz hn
  go_enter Try.func4, Try.ntmps4
  go_wp2_with fail
  refine (new_any w).mono ?_
  rintro e w1 ⟨rfl, hF1, hfr1⟩
  have F1 := Lib.hid ((hF1 w.heap.size (Nat.le_refl _)).move ((Fresh.refl w1).alloc (.cells M 5)))
  have K1 : Hid (Kept w.heap.size w (w1.alloc (.cells M 5))) := hfr1.kept.fresh ((Fresh.refl w1).alloc _)
  have hcv1 := hcv w1
  clear hF1 hfr1 hcv
  go_wp2_with fail
  refine (write_new F1.out rfl (by decide) (by decide) nmA z nmA_ok (by have := HZ.out; omega) rfl).mono ?_
  rintro e w2 ⟨rfl, f, L2, hF2, hK2, _⟩
  have K2 := Lib.hid (K1.out.trans hK2)
  clear hF2 hK2 hcv1 hmk'
  go_wp2_with fail
  refine (awake_true w2).mono ?_
  rintro e w3 ⟨rfl, hfr3⟩
  have K3 := Lib.hid (K2.out.fresh hfr3)
  clear hfr3
  go_wp2
  go_ret
  exact ⟨rfl, K3.out.below (Nat.le_refl _)⟩
theorem own : ownKnob Try.prog.godebug = none := by kernel_rfl
theorem walk (a : Bool) (w : World) : Calls Try.prog 4 #[.bool a] w fun e w' => e = .returned (.bool true) ∧ Fresh w w' := by
  cases a
  · exact walk_less w
  · exact walk_more w

/-! ### From the walk to the row -/
set_option maxRecDepth 100000 in
theorem lifted (os : Os) (started : os.Started) (H : Type) (enc : TypeId × Value → H) :
    ReturnsInHanded {} Try.checked os 4 .any (Rows.simfsLongSpec.pre6 enc Try.prog Try.f4 Rows.simfsLongRow.domain false) (Rows.simfsLongSpec.post enc Try.prog Try.f4 false true false false) := by
  refine returnsInHanded_of_change (C := Try.checked) own started (by kernel_rfl) Try.func4
    (ChangeSpec.witness6 (enc := enc) (C := Try.checked) false ⟨#[], #[.bool false], []⟩ 8 (by kernel_rfl) (by kernel_rfl) (by kernel_rfl) (by kernel_rfl)) ?_
  intro W base args ds gs before hval0 hW hcnd _
  have hval : ∀ (j : Nat) t v, Try.f4.params[j]? = some t → args[j]? = some v → Value.okWide Try.prog W .any base t v := hval0
  have hW' := hW
  obtain ⟨p, q, hA0, hV, rfl, hfz, hnd⟩ := hW
  have hA : DataW.TrodAll enc Try.prog W 0 (fun _ => true) true Try.f4.params.toList args.toList ds p := hA0
  rw [Try.params4] at hA hval
  obtain ⟨v0, vs0, d0, ds0, p0, q0, hargs, rfl, rfl, h0, r0⟩ := trodAll_cons hA
  obtain ⟨rfl, rfl, rfl⟩ := trodAll_nil r0
  obtain rfl : args = #[v0] := by cases args; simp_all
  obtain ⟨rfl, rfl⟩ := trodVars_none hV
  obtain ⟨a0, rfl, rfl, rfl⟩ := open_bool Try.underlying4 (hval 0 4 v0 rfl rfl) h0
  clear hA0 hval0
  simp only [List.append_nil] at hW'
  refine (walk a0 W).mono fun e W' ⟨he, hg⟩ => ?_
  subst he
  exact ⟨_, rfl, _, _, _, [], _, [], hW', trodAll_mk1 (shut_bool Try.underlying4 _), trodAll_mk1 (shut_bool Try.underlying4 _), rfl, Below.frame hg _, fun h => by cases h⟩

theorem simfsLong_holds : Rows.SimfsLongSaid :=
  OpenClaim.holds_of_wide 4 Try.f4 rfl rfl rfl rfl rfl rfl rfl ⟨rfl, rfl, rfl, rfl, rfl⟩ rfl rfl rfl rfl rfl (by kernel_rfl) Try.func4 (by kernel_rfl)
    (of_decide_eq_true (by kernel_rfl)) (by unfold Func.isWrapper; first | (rw [if_pos (by decide +kernel)]; kernel_rfl) | (rw [if_neg (by decide +kernel)]; exact ⟨rfl, rfl⟩))
    (fun os started H enc _ => lifted os started H enc)
#print axioms simfsLong_holds
end Go.Proofs.Ytimcoofmemcojaa.simfsLong

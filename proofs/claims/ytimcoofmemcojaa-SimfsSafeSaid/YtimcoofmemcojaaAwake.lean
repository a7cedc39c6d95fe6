/-
  The document's example of layer 4 comes out as it says.
-/
import Derived.Test.YtimcoofmemcojaaList
namespace Go.Proofs.Ytimcoofmemcojaa
open Go.ChangeShapes Go.WideShapes Go.ChangeAt Go.RowKit
variable {base : Nat} {w : World} {b : Nat} {s : St} {L : Lay}
abbrev nmA : ByteArray := ⟨#[97]⟩
abbrev dtX : ByteArray := ⟨#[120]⟩
theorem nmA_ok : nameB nmA = true := by decide +kernel
theorem on_new (m : Dir) (name : ByteArray) (f : Nat) (hn : name.size ≠ 0) (x : ByteArray) : Deed.on ⟨⟨#[]⟩, name, f⟩ m x = if x = name then some f else m x := by
  have h0 : (ByteArray.mk #[]).size = 0 := rfl
  simp [Deed.on, hn, h0]
theorem bare_wrote (s : St) (f : Nat) : (s.step.does ⟨⟨#[]⟩, nmA, f⟩).now nmA = some f := by
  show Deed.on ⟨⟨#[]⟩, nmA, f⟩ s.now nmA = some f
  rw [on_new _ _ _ (by decide), if_pos rfl]
theorem crash_cuts (h : FsAt base w b s L) (hst : s.steps ≤ 100000) (keep : Int) (n : Nat) (hn : min (max keep 0) (s.wait.length : Int) = n) :
    Calls Try.prog 14 #[.pointer (some ⟨b, 0, none⟩), .int .i64 keep, .slice none 0 0] w fun e w' => e = .returned (.tuple #[]) ∧ (∃ L', FsAt base w' b (s.crash n) L') ∧ Kept base w w' ∧ StillAlike w w' :=
  crash_of h hst keep _ (tearfs_none h hst none 0) n hn
set_option maxRecDepth 100000 in
set_option maxHeartbeats 2000000 in
theorem awake_true (w : World) : Calls Try.prog 6 #[] w fun e w' => e = .returned (.bool true) ∧ Fresh w w' := by
  go_enter Try.func6, Try.ntmps6
  go_wp2_with fail
  refine (new_any w).mono ?_
  rintro e w1 ⟨rfl, hF1, hfr1⟩
  have F1 := Lib.hid (hF1 w.heap.size (Nat.le_refl _))
  have K1 : Hid (Kept w.heap.size w w1) := hfr1.kept
  clear hF1 hfr1
  go_wp2_with fail
  refine (write_new F1.out rfl (by decide) (by decide) nmA dtX nmA_ok (by decide) rfl).mono ?_
  rintro e w2 ⟨rfl, f, L2, hF2, hK2, c, y, hx⟩
  have F2 := Lib.hid hF2
  have K2 := Lib.hid (K1.out.trans hK2)
  clear hF2 hK2 hx
  go_wp2_with fail
  refine (sync_some F2.out rfl (by show (-1 : Int) ≠ 0; decide) (by show (1 : Nat) ≤ 1000000; decide) nmA nmA_ok (f := f) (bare_wrote _ f)).mono ?_
  rintro e w3 ⟨rfl, hF3, hK3, _⟩
  have F3 := Lib.hid hF3
  have K3 := Lib.hid (K2.out.trans hK3)
  clear hF3 hK3
  go_wp2_with fail
  refine (crash_cuts F3.out (by show (2 : Nat) ≤ 100000; decide) 0 0 (by show min (max (0 : Int) 0) ((1 : Nat) : Int) = ((0 : Nat) : Int); decide)).mono ?_
  rintro e w4 ⟨rfl, ⟨L4, hF4⟩, hK4, _⟩
  have F4 := Lib.hid hF4
  have K4 := Lib.hid (K3.out.trans hK4)
  clear hF4 hK4
  go_wp2_with fail
  refine (list_none F4.out rfl (fun _ => rfl)).mono ?_
  rintro e w5 ⟨rfl, hfr5⟩
  have F5 := Lib.hid (F4.out.move hfr5)
  have K5 := Lib.hid (K4.out.fresh hfr5)
  clear hfr5
  go_wp2_with fail
  refine (write_new F5.out rfl (by show (-1 : Int) ≠ 0; decide) (by show (2 : Nat) ≤ 900000; decide) nmA dtX nmA_ok (by decide) rfl).mono ?_
  rintro e w6 ⟨rfl, f', L6, hF6, hK6, c', y', hx'⟩
  have F6 := Lib.hid hF6
  have K6 := Lib.hid (K5.out.trans hK6)
  clear hF6 hK6 hx'
  go_wp2_with fail
  refine (sync_some F6.out rfl (by show (-1 : Int) ≠ 0; decide) (by show (3 : Nat) ≤ 1000000; decide) nmA nmA_ok (f := f') (bare_wrote _ f')).mono ?_
  rintro e w7 ⟨rfl, hF7, hK7, _⟩
  have F7 := Lib.hid hF7
  have K7 := Lib.hid (K6.out.trans hK7)
  clear hF7 hK7
  go_wp2_with fail
  refine (syncdir_ok F7.out rfl (by show (-1 : Int) ≠ 0; decide) (by show (4 : Nat) ≤ 900000; decide)).mono ?_
  rintro e w8 ⟨rfl, ⟨L8, hF8⟩, hK8, _⟩
  have F8 := Lib.hid hF8
  have K8 := Lib.hid (K7.out.trans hK8)
  clear hF8 hK8
  go_wp2_with fail
  refine (crash_cuts F8.out (by show (5 : Nat) ≤ 100000; decide) 0 0 (by show min (max (0 : Int) 0) ((0 : Nat) : Int) = ((0 : Nat) : Int); decide)).mono ?_
  rintro e w9 ⟨rfl, ⟨L9, hF9⟩, hK9, _⟩
  have F9 := Lib.hid hF9
  have K9 := Lib.hid (K8.out.trans hK9)
  clear hF9 hK9
  go_wp2_with fail
  refine (list_one F9.out rfl nmA (fun x => ?_)).mono ?_
  · show Deed.on ⟨⟨#[]⟩, nmA, f'⟩ (fun _ => none) x ≠ none ↔ x = nmA
    rw [on_new _ _ _ (by decide)]
    by_cases e : x = nmA <;> simp [e]
  rintro e w10 ⟨⟨g, cap, rfl⟩, hfr10⟩
  have K10 := Lib.hid (K9.out.fresh hfr10)
  clear hfr10
  go_wp2
  go_ret
  exact ⟨rfl, K10.out.below (Nat.le_refl _)⟩
end Go.Proofs.Ytimcoofmemcojaa

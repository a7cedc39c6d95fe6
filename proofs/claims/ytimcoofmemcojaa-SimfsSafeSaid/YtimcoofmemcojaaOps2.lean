/-
  What Sync, Rename and Remove of a system answer, and the state that they leave.
-/
import Derived.Test.YtimcoofmemcojaaOps
namespace Go.Proofs.Ytimcoofmemcojaa
open Go.ChangeShapes Go.WideShapes Go.ChangeAt Go.RowKit
variable {base : Nat} {w : World} {b : Nat} {s : St} {L : Lay}

theorem sync_down (h : FsAt base w b s L) (hd : s.down = true ∨ s.left = 0) (name : ByteArray) :
    Calls Try.prog 12 #[.pointer (some ⟨b, 0, none⟩), .string name] w fun e w' => e = .returned (.int .i64 17) ∧ FsAt base w' b s.fell L ∧ Kept base w w' ∧ SameFiles w w' := by
  have HH := Lib.hid h
  have HD := Lib.hid hd
  clear h hd
  go_enter Try.func12, Try.ntmps12
  go_wp2_with fail
  refine (step_down HH.out HD.out).mono ?_
  rintro e w1 ⟨rfl, hF, hK, hS⟩
  have HF := Lib.hid hF
  have HS := Lib.hid hS
  clear hF hS
  go_wp2
  go_ret
  exact ⟨rfl, HF.out, hK, HS.out⟩
theorem sync_bad (h : FsAt base w b s L) (hd : s.down = false) (hz : s.left ≠ 0) (hst : s.steps ≤ 1000000) (name : ByteArray) (hs : name.size ≤ maxLen) (hn : nameB name = false) :
    Calls Try.prog 12 #[.pointer (some ⟨b, 0, none⟩), .string name] w fun e w' => e = .returned (.int .i64 13) ∧ FsAt base w' b s.step L ∧ Kept base w w' ∧ SameFiles w w' := by
  have HH := Lib.hid h
  have HD := Lib.hid hd
  have HN := Lib.hid hn
  have HZ := Lib.hid hz
  clear h hd hn hz
  go_enter Try.func12, Try.ntmps12
  go_wp2_with fail
  refine (step_ok HH.out HD.out HZ.out hst).mono ?_
  rintro e w1 ⟨rfl, hF, hK, hS⟩
  have HF := Lib.hid hF
  have HS := Lib.hid hS
  clear hF hS
  go_wp2_with fail
  refine (find_bad _ _ _ hs HN.out).mono ?_
  rintro e w2 ⟨rfl, rfl⟩
  go_wp2
  go_ret
  exact ⟨rfl, HF.out, hK, HS.out⟩
theorem sync_none (h : FsAt base w b s L) (hd : s.down = false) (hz : s.left ≠ 0) (hst : s.steps ≤ 1000000) (name : ByteArray) (hn : nameB name = true) (hx : s.now name = none) :
    Calls Try.prog 12 #[.pointer (some ⟨b, 0, none⟩), .string name] w fun e w' => e = .returned (.int .i64 16) ∧ FsAt base w' b s.step L ∧ Kept base w w' ∧ SameFiles w w' := by
  have HH := Lib.hid h
  have HD := Lib.hid hd
  have HN := Lib.hid hn
  have HZ := Lib.hid hz
  have HX := Lib.hid hx
  clear h hd hn hz hx
  go_enter Try.func12, Try.ntmps12
  go_wp2_with fail
  refine (step_ok HH.out HD.out HZ.out hst).mono ?_
  rintro e w1 ⟨rfl, hF, hK, hS⟩
  have HF := Lib.hid hF
  have HS := Lib.hid hS
  clear hF hS
  go_wp2_with fail
  refine (find_none HF.out _ HN.out HX.out).mono ?_
  rintro e w2 ⟨rfl, rfl⟩
  go_wp2
  go_ret
  exact ⟨rfl, HF.out, hK, HS.out⟩
theorem sync_some (h : FsAt base w b s L) (hd : s.down = false) (hz : s.left ≠ 0) (hst : s.steps ≤ 1000000) (name : ByteArray) (hn : nameB name = true) {f : Nat} (hx : s.now name = some f) :
    Calls Try.prog 12 #[.pointer (some ⟨b, 0, none⟩), .string name] w fun e w' => e = .returned (.int .i64 0) ∧ FsAt base w' b s.step L ∧ Kept base w w' ∧ ∀ c x y, fileAt w f c x y → fileAt w' f c x x := by
  have HH := Lib.hid h
  have HD := Lib.hid hd
  have HN := Lib.hid hn
  have HZ := Lib.hid hz
  have HX := Lib.hid hx
  clear h hd hn hz hx
  go_enter Try.func12, Try.ntmps12
  go_wp2_with fail
  refine (step_ok HH.out HD.out HZ.out hst).mono ?_
  rintro e w1 ⟨rfl, hF, hK, hS⟩
  have HF := Lib.hid hF
  have HS := Lib.hid hS
  clear hF hS
  go_wp2_with fail
  refine (find_some HF.out _ HN.out HX.out).mono ?_
  rintro e w2 ⟨rfl, rfl⟩
  have hfile := HF.out.files f (.inl ⟨name, HX.out⟩)
  have HI := Lib.hid hfile
  obtain ⟨hb0, c, x, y, hxy, hsx, hsy⟩ := hfile
  obtain ⟨_, q1, q2, _, _, g2⟩ := hxy.cells
  have HXY := Lib.hid hxy
  clear hxy
  go_wp2
  go_ret
  have hg := grown_set w1 f 2 (.string x)
  refine ⟨rfl, HF.out.onFile HI.out hg ⟨hb0, c, x, x, HXY.out.safe x, hsx, hsx⟩, hK.trans (HI.out.kept hg), fun c' x' y' h' => ?_⟩
  have h2 := HS.out f c' x' y' h'
  have e : #[Value.int .i64 c', .string x', .string y'] = #[Value.int .i64 c, .string x, .string y] := by
    have := HXY.out
    unfold fileAt at h2 this
    rw [h2] at this
    simpa using this
  simp at e
  obtain ⟨rfl, rfl, rfl⟩ := e
  exact HXY.out.safe _

theorem rename_down (h : FsAt base w b s L) (hd : s.down = true ∨ s.left = 0) (name to : ByteArray) :
    Calls Try.prog 21 #[.pointer (some ⟨b, 0, none⟩), .string name, .string to] w fun e w' => e = .returned (.int .i64 17) ∧ FsAt base w' b s.fell L ∧ Kept base w w' ∧ SameFiles w w' := by
  have HH := Lib.hid h
  have HD := Lib.hid hd
  clear h hd
  go_enter Try.func21, Try.ntmps21
  go_wp2_with fail
  refine (step_down HH.out HD.out).mono ?_
  rintro e w1 ⟨rfl, hF, hK, hS⟩
  have HF := Lib.hid hF
  have HS := Lib.hid hS
  clear hF hS
  go_wp2
  go_ret
  exact ⟨rfl, HF.out, hK, HS.out⟩
theorem rename_bad (h : FsAt base w b s L) (hd : s.down = false) (hz : s.left ≠ 0) (hst : s.steps ≤ 1000000) (name to : ByteArray) (hs : name.size ≤ maxLen) (hs2 : to.size ≤ maxLen) (hn : nameB to = false ∨ nameB name = false) :
    Calls Try.prog 21 #[.pointer (some ⟨b, 0, none⟩), .string name, .string to] w fun e w' => e = .returned (.int .i64 13) ∧ FsAt base w' b s.step L ∧ Kept base w w' ∧ SameFiles w w' := by
  have HH := Lib.hid h
  have HD := Lib.hid hd
  have HZ := Lib.hid hz
  clear h hd hz
  by_cases ht : nameB to = true
  · have HT := Lib.hid ht
    have HN : Hid (nameB name = false) := by rcases hn with h | h; (· rw [ht] at h; cases h); exact h
    clear hn ht
    go_enter Try.func21, Try.ntmps21
    go_wp2_with fail
    refine (step_ok HH.out HD.out HZ.out hst).mono ?_
    rintro e w1 ⟨rfl, hF, hK, hS⟩
    have HF := Lib.hid hF
    have HS := Lib.hid hS
    clear hF hS
    go_wp2_with fail
    refine (isName_yes _ _ HT.out).mono ?_
    rintro e w2 ⟨rfl, rfl⟩
    go_wp2_with fail
    refine (find_bad _ _ _ hs HN.out).mono ?_
    rintro e w2 ⟨rfl, rfl⟩
    go_wp2
    go_ret
    exact ⟨rfl, HF.out, hK, HS.out⟩
  · have HT : Hid (nameB to = false) := by unfold Hid; simpa using ht
    clear hn ht
    go_enter Try.func21, Try.ntmps21
    go_wp2_with fail
    refine (step_ok HH.out HD.out HZ.out hst).mono ?_
    rintro e w1 ⟨rfl, hF, hK, hS⟩
    have HF := Lib.hid hF
    have HS := Lib.hid hS
    clear hF hS
    go_wp2_with fail
    refine (isName_no _ _ hs2 HT.out).mono ?_
    rintro e w2 ⟨rfl, rfl⟩
    go_wp2
    go_ret
    exact ⟨rfl, HF.out, hK, HS.out⟩
theorem rename_none (h : FsAt base w b s L) (hd : s.down = false) (hz : s.left ≠ 0) (hst : s.steps ≤ 1000000) (name to : ByteArray) (ht : nameB to = true) (hn : nameB name = true) (hx : s.now name = none) :
    Calls Try.prog 21 #[.pointer (some ⟨b, 0, none⟩), .string name, .string to] w fun e w' => e = .returned (.int .i64 16) ∧ FsAt base w' b s.step L ∧ Kept base w w' ∧ SameFiles w w' := by
  have HH := Lib.hid h
  have HD := Lib.hid hd
  have HZ := Lib.hid hz
  have HT := Lib.hid ht
  have HN := Lib.hid hn
  have HX := Lib.hid hx
  clear h hd hz ht hn hx
  go_enter Try.func21, Try.ntmps21
  go_wp2_with fail
  refine (step_ok HH.out HD.out HZ.out hst).mono ?_
  rintro e w1 ⟨rfl, hF, hK, hS⟩
  have HF := Lib.hid hF
  have HS := Lib.hid hS
  clear hF hS
  go_wp2_with fail
  refine (isName_yes _ _ HT.out).mono ?_
  rintro e w2 ⟨rfl, rfl⟩
  go_wp2_with fail
  refine (find_none HF.out _ HN.out HX.out).mono ?_
  rintro e w2 ⟨rfl, rfl⟩
  go_wp2
  go_ret
  exact ⟨rfl, HF.out, hK, HS.out⟩
set_option maxHeartbeats 400000 in
theorem rename_some (h : FsAt base w b s L) (hd : s.down = false) (hz : s.left ≠ 0) (hst : s.steps ≤ 900000) (name to : ByteArray) (ht : nameB to = true) (hn : nameB name = true) {f : Nat} (hx : s.now name = some f) :
    Calls Try.prog 21 #[.pointer (some ⟨b, 0, none⟩), .string name, .string to] w fun e w' => e = .returned (.int .i64 0) ∧ (∃ L', FsAt base w' b (s.step.does ⟨name, to, f⟩) L') ∧ Kept base w w' ∧ SameFiles w w' := by
  have hnn := h.len1
  have hns := h.len2
  have HH := Lib.hid h
  have HD := Lib.hid hd
  have HZ := Lib.hid hz
  have HT := Lib.hid ht
  have HN := Lib.hid hn
  have HX := Lib.hid hx
  clear h hd hz ht hn hx
  go_enter Try.func21, Try.ntmps21
  go_wp2_with fail
  refine (step_ok HH.out HD.out HZ.out (by omega)).mono ?_
  rintro e w1 ⟨rfl, hF, hK, hS⟩
  have HF := Lib.hid hF
  have HS := Lib.hid hS
  clear hF hS
  go_wp2_with fail
  refine (isName_yes _ _ HT.out).mono ?_
  rintro e w2 ⟨rfl, rfl⟩
  go_wp2_with fail
  refine (find_some HF.out _ HN.out HX.out).mono ?_
  rintro e w2 ⟨rfl, rfl⟩
  go_wp2_with fail
  refine (do_any HF.out ⟨name, to, f⟩ (HF.out.files f (.inl ⟨name, HX.out⟩)) (by show L.nn < s.steps + 1; omega) (by show L.ns + s.wait.length < s.steps + 1; omega) (by show s.steps + 1 ≤ _; omega) (nameB_size HN.out).2 (nameB_size HT.out).2).mono ?_
  rintro e w2 ⟨rfl, hF2, hK2, hS2⟩
  have HF2 := Lib.hid hF2
  have HS2 := Lib.hid hS2
  clear hF2 hS2
  go_wp2
  go_ret
  exact ⟨rfl, HF2.out, hK.trans hK2, HS.out.trans HS2.out⟩

theorem remove_down (h : FsAt base w b s L) (hd : s.down = true ∨ s.left = 0) (name : ByteArray) :
    Calls Try.prog 23 #[.pointer (some ⟨b, 0, none⟩), .string name] w fun e w' => e = .returned (.int .i64 17) ∧ FsAt base w' b s.fell L ∧ Kept base w w' ∧ SameFiles w w' := by
  have HH := Lib.hid h
  have HD := Lib.hid hd
  clear h hd
  go_enter Try.func23, Try.ntmps23
  go_wp2_with fail
  refine (step_down HH.out HD.out).mono ?_
  rintro e w1 ⟨rfl, hF, hK, hS⟩
  have HF := Lib.hid hF
  have HS := Lib.hid hS
  clear hF hS
  go_wp2
  go_ret
  exact ⟨rfl, HF.out, hK, HS.out⟩
theorem remove_bad (h : FsAt base w b s L) (hd : s.down = false) (hz : s.left ≠ 0) (hst : s.steps ≤ 1000000) (name : ByteArray) (hs : name.size ≤ maxLen) (hn : nameB name = false) :
    Calls Try.prog 23 #[.pointer (some ⟨b, 0, none⟩), .string name] w fun e w' => e = .returned (.int .i64 13) ∧ FsAt base w' b s.step L ∧ Kept base w w' ∧ SameFiles w w' := by
  have HH := Lib.hid h
  have HD := Lib.hid hd
  have HN := Lib.hid hn
  have HZ := Lib.hid hz
  clear h hd hn hz
  go_enter Try.func23, Try.ntmps23
  go_wp2_with fail
  refine (step_ok HH.out HD.out HZ.out hst).mono ?_
  rintro e w1 ⟨rfl, hF, hK, hS⟩
  have HF := Lib.hid hF
  have HS := Lib.hid hS
  clear hF hS
  go_wp2_with fail
  refine (find_bad _ _ _ hs HN.out).mono ?_
  rintro e w2 ⟨rfl, rfl⟩
  go_wp2
  go_ret
  exact ⟨rfl, HF.out, hK, HS.out⟩
theorem remove_none (h : FsAt base w b s L) (hd : s.down = false) (hz : s.left ≠ 0) (hst : s.steps ≤ 1000000) (name : ByteArray) (hn : nameB name = true) (hx : s.now name = none) :
    Calls Try.prog 23 #[.pointer (some ⟨b, 0, none⟩), .string name] w fun e w' => e = .returned (.int .i64 16) ∧ FsAt base w' b s.step L ∧ Kept base w w' ∧ SameFiles w w' := by
  have HH := Lib.hid h
  have HD := Lib.hid hd
  have HN := Lib.hid hn
  have HZ := Lib.hid hz
  have HX := Lib.hid hx
  clear h hd hn hz hx
  go_enter Try.func23, Try.ntmps23
  go_wp2_with fail
  refine (step_ok HH.out HD.out HZ.out hst).mono ?_
  rintro e w1 ⟨rfl, hF, hK, hS⟩
  have HF := Lib.hid hF
  have HS := Lib.hid hS
  clear hF hS
  go_wp2_with fail
  refine (find_none HF.out _ HN.out HX.out).mono ?_
  rintro e w2 ⟨rfl, rfl⟩
  go_wp2
  go_ret
  exact ⟨rfl, HF.out, hK, HS.out⟩
set_option maxHeartbeats 400000 in
theorem remove_some (h : FsAt base w b s L) (hd : s.down = false) (hz : s.left ≠ 0) (hst : s.steps ≤ 900000) (name : ByteArray) (hn : nameB name = true) {f : Nat} (hx : s.now name = some f) :
    Calls Try.prog 23 #[.pointer (some ⟨b, 0, none⟩), .string name] w fun e w' => e = .returned (.int .i64 0) ∧ (∃ L', FsAt base w' b (s.step.does ⟨name, ⟨#[]⟩, f⟩) L') ∧ Kept base w w' ∧ SameFiles w w' := by
  have hnn := h.len1
  have hns := h.len2
  have HH := Lib.hid h
  have HD := Lib.hid hd
  have HZ := Lib.hid hz
  have HN := Lib.hid hn
  have HX := Lib.hid hx
  clear h hd hz hn hx
  go_enter Try.func23, Try.ntmps23
  go_wp2_with fail
  refine (step_ok HH.out HD.out HZ.out (by omega)).mono ?_
  rintro e w1 ⟨rfl, hF, hK, hS⟩
  have HF := Lib.hid hF
  have HS := Lib.hid hS
  clear hF hS
  go_wp2_with fail
  refine (find_some HF.out _ HN.out HX.out).mono ?_
  rintro e w2 ⟨rfl, rfl⟩
  go_wp2_with fail
  refine (do_any HF.out ⟨name, ⟨#[]⟩, f⟩ (HF.out.files f (.inl ⟨name, HX.out⟩)) (by show L.nn < s.steps + 1; omega) (by show L.ns + s.wait.length < s.steps + 1; omega) (by show s.steps + 1 ≤ _; omega) (nameB_size HN.out).2 (Nat.zero_le _)).mono ?_
  rintro e w2 ⟨rfl, hF2, hK2, hS2⟩
  have HF2 := Lib.hid hF2
  have HS2 := Lib.hid hS2
  clear hF2 hS2
  go_wp2
  go_ret
  exact ⟨rfl, HF2.out, hK.trans hK2, HS.out.trans HS2.out⟩
end Go.Proofs.Ytimcoofmemcojaa

/-
  What Write, Sync, Rename and Remove of a system answer, and the state that they leave.
-/
import Derived.Test.YtimcoofmemcojaaDo
namespace Go.Proofs.Ytimcoofmemcojaa
open Go.ChangeShapes Go.WideShapes Go.ChangeAt Go.RowKit
variable {base : Nat} {w : World} {b : Nat} {s : St} {L : Lay}

/-- A block of a file turned: all else of the system stands. -/
theorem FsAt.onFile (h : FsAt base w b s L) {w' : World} {f : Nat} (hf : isFile base w f) (hg : w.grownBy w' (some f)) (hf' : isFile base w' f) : FsAt base w' b s L where
  hb := h.hb
  blk := (hg.block b h.lt (fun e => by
    obtain ⟨_, c, x, y, hx, _⟩ := hf
    cases e
    rw [fileAt, h.blk] at hx; simp at hx)).trans h.blk
  hn := h.hn
  hs := h.hs
  ne := h.ne
  now := h.now.move (hg.block _ h.now.lt (fun e => by
    obtain ⟨_, c, x, y, hx, _⟩ := hf
    cases e
    exact h.now.not_cells hx rfl))
  safe := h.safe.move (hg.block _ h.safe.lt (fun e => by
    obtain ⟨_, c, x, y, hx, _⟩ := hf
    cases e
    exact h.safe.not_cells hx rfl))
  row := h.row.kept hg (by
    obtain ⟨_, c, x, y, hx, _⟩ := hf
    have := row_far h.row hx (by simp)
    exact .inr fun e => this e.symm)
  len1 := h.len1
  len2 := h.len2
  files := fun g hgf => by
    by_cases e : g = f
    · subst e; exact hf'
    · exact (h.files g hgf).move (hg.block _ (h.files g hgf).lt (by simpa using e))
  ok := h.ok
theorem isFile.kept {f : Nat} (hf : isFile base w f) {w' : World} (hg : w.grownBy w' (some f)) : Kept base w w' := (Kept.refl _ _).grown hg hf.1 hf.code
/-- The state behind a step that isn't refused. -/
def St.step (s : St) : St := s.count (s.steps + 1) (lessOne s.left) false
def St.fell (s : St) : St := s.count s.steps s.left true

theorem write_down (h : FsAt base w b s L) (hd : s.down = true ∨ s.left = 0) (name data : ByteArray) :
    Calls Try.prog 11 #[.pointer (some ⟨b, 0, none⟩), .string name, .string data] w fun e w' => e = .returned (.int .i64 17) ∧ FsAt base w' b s.fell L ∧ Kept base w w' ∧ SameFiles w w' := by
  have HH := Lib.hid h
  have HD := Lib.hid hd
  clear h hd
  go_enter Try.func11, Try.ntmps11
  go_wp2_with fail
  refine (step_down HH.out HD.out).mono ?_
  rintro e w1 ⟨rfl, hF, hK, hS⟩
  have HF := Lib.hid hF
  have HS := Lib.hid hS
  clear hF hS
  go_wp2
  go_ret
  exact ⟨rfl, HF.out, hK, HS.out⟩
theorem write_bad (h : FsAt base w b s L) (hd : s.down = false) (hz : s.left ≠ 0) (hst : s.steps ≤ 1000000) (name data : ByteArray) (hs : name.size ≤ maxLen) (hn : nameB name = false) :
    Calls Try.prog 11 #[.pointer (some ⟨b, 0, none⟩), .string name, .string data] w fun e w' => e = .returned (.int .i64 13) ∧ FsAt base w' b s.step L ∧ Kept base w w' ∧ SameFiles w w' := by
  have HH := Lib.hid h
  have HD := Lib.hid hd
  have HN := Lib.hid hn
  have HZ := Lib.hid hz
  clear h hd hn hz
  go_enter Try.func11, Try.ntmps11
  go_wp2_with fail
  refine (step_ok HH.out HD.out HZ.out hst).mono ?_
  rintro e w1 ⟨rfl, hF, hK, hS⟩
  have HF := Lib.hid hF
  have HS := Lib.hid hS
  clear hF hS
  go_wp2_with fail
  refine (find_bad _ _ _ hs HN.out).mono ?_
  rintro e w2 ⟨rfl, rfl⟩
  go_wp2
  go_ret
  exact ⟨rfl, HF.out, hK, HS.out⟩
set_option maxHeartbeats 400000 in
theorem write_long (h : FsAt base w b s L) (hd : s.down = false) (hz : s.left ≠ 0) (hst : s.steps ≤ 1000000) (name data : ByteArray) (hm : data.size ≤ maxLen) (hn : nameB name = true) (hl : 8388608 < data.size) :
    Calls Try.prog 11 #[.pointer (some ⟨b, 0, none⟩), .string name, .string data] w fun e w' => e = .returned (.int .i64 2) ∧ FsAt base w' b s.step L ∧ Kept base w w' ∧ SameFiles w w' := by
  unfold maxLen at hm
  cases hx : s.now name with
  | none =>
    have HH := Lib.hid h
    have HD := Lib.hid hd
    have HN := Lib.hid hn
    have HZ := Lib.hid hz
    have HX := Lib.hid hx
    clear h hd hn hz hx
    go_enter Try.func11, Try.ntmps11
    go_wp2_with fail
    refine (step_ok HH.out HD.out HZ.out hst).mono ?_
    rintro e w1 ⟨rfl, hF, hK, hS⟩
    have HF := Lib.hid hF
    have HS := Lib.hid hS
    clear hF hS
    go_wp2_with fail
    refine (find_none HF.out _ HN.out HX.out).mono ?_
    rintro e w2 ⟨rfl, rfl⟩
    go_wp2
    go_ret
    exact ⟨rfl, HF.out, hK, HS.out⟩
  | some f =>
    have HH := Lib.hid h
    have HD := Lib.hid hd
    have HN := Lib.hid hn
    have HZ := Lib.hid hz
    have HX := Lib.hid hx
    clear h hd hn hz hx
    go_enter Try.func11, Try.ntmps11
    go_wp2_with fail
    refine (step_ok HH.out HD.out HZ.out hst).mono ?_
    rintro e w1 ⟨rfl, hF, hK, hS⟩
    have HF := Lib.hid hF
    have HS := Lib.hid hS
    clear hF hS
    go_wp2_with fail
    refine (find_some HF.out _ HN.out HX.out).mono ?_
    rintro e w2 ⟨rfl, rfl⟩
    go_wp2
    go_ret
    exact ⟨rfl, HF.out, hK, HS.out⟩
/-- What a file's block comes to behind a store of its content now. -/
theorem fileAt.now {w : World} {f : Nat} {c : Int} {x y : ByteArray} (h : fileAt w f c x y) (z : ByteArray) : fileAt (w.setCell ⟨f, 1, none⟩ (.string z)) f c z y := by
  unfold fileAt at h ⊢
  simp [World.setCell, Array.getElem?_modify, h]
theorem fileAt.safe {w : World} {f : Nat} {c : Int} {x y : ByteArray} (h : fileAt w f c x y) (z : ByteArray) : fileAt (w.setCell ⟨f, 2, none⟩ (.string z)) f c x z := by
  unfold fileAt at h ⊢
  simp [World.setCell, Array.getElem?_modify, h]
set_option maxHeartbeats 400000 in
theorem write_old (h : FsAt base w b s L) (hd : s.down = false) (hz : s.left ≠ 0) (hst : s.steps ≤ 1000000) (name data : ByteArray) (hn : nameB name = true) (hl : data.size ≤ 8388608) {f : Nat} (hx : s.now name = some f) :
    Calls Try.prog 11 #[.pointer (some ⟨b, 0, none⟩), .string name, .string data] w fun e w' => e = .returned (.int .i64 0) ∧ FsAt base w' b s.step L ∧ Kept base w w' ∧ ∃ c y, fileAt w' f c data y := by
  have HH := Lib.hid h
  have HD := Lib.hid hd
  have HN := Lib.hid hn
  have HZ := Lib.hid hz
  have HX := Lib.hid hx
  clear h hd hn hz hx
  go_enter Try.func11, Try.ntmps11
  go_wp2_with fail
  refine (step_ok HH.out HD.out HZ.out hst).mono ?_
  rintro e w1 ⟨rfl, hF, hK, hS⟩
  have HF := Lib.hid hF
  clear hF hS
  go_wp2_with fail
  refine (find_some HF.out _ HN.out HX.out).mono ?_
  rintro e w2 ⟨rfl, rfl⟩
  have hfile := HF.out.files f (.inl ⟨name, HX.out⟩)
  have HI := Lib.hid hfile
  obtain ⟨hb0, c, x, y, hxy, hsx, hsy⟩ := hfile
  obtain ⟨_, q1, _, _, g1, _⟩ := hxy.cells
  have HXY := Lib.hid hxy
  clear hxy
  go_wp2
  go_ret
  have hg := grown_set w1 f 1 (.string data)
  exact ⟨rfl, HF.out.onFile HI.out hg ⟨hb0, c, data, y, HXY.out.now data, hl, hsy⟩, hK.trans (HI.out.kept hg), c, y, HXY.out.now data⟩
set_option maxRecDepth 100000 in
set_option maxHeartbeats 1000000 in
theorem write_new (h : FsAt base w b s L) (hd : s.down = false) (hz : s.left ≠ 0) (hst : s.steps ≤ 900000) (name data : ByteArray) (hn : nameB name = true) (hl : data.size ≤ 8388608) (hx : s.now name = none) :
    Calls Try.prog 11 #[.pointer (some ⟨b, 0, none⟩), .string name, .string data] w fun e w' => e = .returned (.int .i64 0) ∧ ∃ f L', FsAt base w' b (s.step.does ⟨⟨#[]⟩, name, f⟩) L' ∧ Kept base w w' ∧ ∃ c y, fileAt w' f c data y := by
  have hnn := h.len1
  have hns := h.len2
  have HH := Lib.hid h
  have HD := Lib.hid hd
  have HN := Lib.hid hn
  have HZ := Lib.hid hz
  have HX := Lib.hid hx
  clear h hd hn hz hx
  go_enter Try.func11, Try.ntmps11
  go_wp2_with fail
  refine (step_ok HH.out HD.out HZ.out (by omega)).mono ?_
  rintro e w1 ⟨rfl, hF, hK, hS⟩
  have c3 : w1.cell? ⟨b, 3, none⟩ = some (.int .i64 ((s.steps + 1 : Nat) : Int)) := hF.cells.2.2.2.1
  have HF := Lib.hid hF
  clear hF hS
  go_wp2_with fail
  refine (find_none HF.out _ HN.out HX.out).mono ?_
  rintro e w2 ⟨rfl, rfl⟩
  have hbase : base ≤ w1.heap.size := Nat.le_trans HF.out.hb (Nat.le_of_lt HF.out.lt)
  have hfr : Hid (Fresh w1 (w1.alloc (.cells #[.int .i64 ((s.steps + 1 : Nat) : Int), .string ⟨#[]⟩, .string ⟨#[]⟩] 67))) := (Fresh.refl w1).alloc _
  go_wp2_with fail
  refine (do_any (HF.out.move hfr.out) ⟨⟨#[]⟩, name, w1.heap.size⟩ ⟨hbase, _, _, _, at_new w1 _, Nat.zero_le _, Nat.zero_le _⟩ (by show L.nn < s.steps + 1; omega) (by show L.ns + s.wait.length < s.steps + 1; omega) (by show s.steps + 1 ≤ _; omega) (Nat.zero_le _) (nameB_size HN.out).2).mono ?_
  rintro e w2 ⟨rfl, ⟨L', hF2⟩, hK2, hS2⟩
  have hxy := hS2 w1.heap.size _ _ _ (at_new w1 _)
  obtain ⟨_, q1, _, _, g1, _⟩ := hxy.cells
  have HXY := Lib.hid hxy
  have HF2 := Lib.hid hF2
  clear hxy hF2 hS2
  go_wp2
  go_ret
  have hg := grown_set w2 w1.heap.size 1 (.string data)
  have HI : isFile base w2 w1.heap.size := ⟨hbase, _, _, _, HXY.out, Nat.zero_le _, Nat.zero_le _⟩
  exact ⟨rfl, w1.heap.size, L', HF2.out.onFile HI hg ⟨hbase, _, data, _, HXY.out.now data, hl, Nat.zero_le _⟩, ((hK.fresh hfr.out).trans hK2).trans (HI.kept hg), _, _, HXY.out.now data⟩
end Go.Proofs.Ytimcoofmemcojaa

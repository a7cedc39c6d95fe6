/-
  What '(*FS).settle' leaves: the first deeds done to the safe directory, nothing waiting; SyncDir.
-/
import Derived.Test.YtimcoofmemcojaaOps2
namespace Go.Proofs.Ytimcoofmemcojaa
open Go.ChangeShapes Go.WideShapes Go.ChangeAt Go.RowKit
variable {base : Nat} {w : World} {b : Nat} {s : St} {L : Lay}

/-- Of what was there only two blocks have turned. -/
structure Two (b c : Nat) (w w' : World) : Prop where
  os : w'.os = w.os
  tape : w'.tape = w.tape
  output : w'.output = w.output
  size : w.heap.size ≤ w'.heap.size
  block : ∀ k, k < w.heap.size → k ≠ b → k ≠ c → w'.heap[k]? = w.heap[k]?
def Settled (w : World) (L : Lay) (s : St) (k : Nat) (wr : World) : Prop := dirIs wr L.bs (L.ns + k) (onAll s.safe (s.wait.take k)) ∧ w.grownBy wr (some L.bs)
theorem onAll_take (m : Dir) (l : List Deed) (k : Nat) (hk : k < l.length) : onAll m (l.take (k + 1)) = (l[k]).on (onAll m (l.take k)) := by
  rw [List.take_succ_eq_append_getElem hk, onAll_snoc]
theorem cellsOf_get (l : List Deed) : ∀ (k : Nat) (hk : k < l.length), (cellsOf l)[k * 3]? = some (.string l[k].src) ∧ (cellsOf l)[k * 3 + 1]? = some (.string l[k].dst) ∧ (cellsOf l)[k * 3 + 2]? = some (fp l[k].file) := by
  induction l with
  | nil => intro k hk; simp at hk
  | cons d l ih =>
    intro k hk
    cases k with
    | zero => simp [cellsOf, Deed.cells]
    | succ k =>
      have := ih k (by simpa using hk)
      simp only [cellsOf, List.flatMap_cons, Deed.cells] at *
      simpa [show (k + 1) * 3 = k * 3 + 3 by omega, show k * 3 + 3 + 1 = k * 3 + 1 + 3 by omega, show k * 3 + 3 + 2 = k * 3 + 2 + 3 by omega, List.getElem?_append_right] using this
theorem row_cell {v : Value} {l : List Deed} (hr : w.ownsRow base 70 3 v l.length (cellsOf l)) {g n cap : Nat} (hv : v = .slice (some ⟨g, 0, none⟩) n cap) (k : Nat) (hk : k < l.length) :
    w.cell? ⟨g, k * 3, none⟩ = some (.string l[k].src) ∧ w.cell? ⟨g, k * 3 + 1, none⟩ = some (.string l[k].dst) ∧ w.cell? ⟨g, k * 3 + 2, none⟩ = some (.pointer (some ⟨l[k].file, 0, none⟩)) := by
  have hc := hr.cells (g := g) (by rw [hv]; rfl)
  have ha : ∀ j, (⟨g, 0, none⟩ : Addr).add j = ⟨g, j, none⟩ := fun j => by unfold Addr.add; split <;> simp_all
  obtain ⟨c0, c1, c2⟩ := cellsOf_get l k hk
  exact ⟨by rw [← ha]; exact hc _ _ c0, by rw [← ha]; exact hc _ _ c1, by rw [← ha]; exact hc _ _ c2⟩
set_option maxRecDepth 100000 in
set_option maxHeartbeats 1000000 in
theorem settle_row (h : FsAt base w b s L) (n : Nat) (hn : n ≤ s.wait.length) (hst : s.steps ≤ 1000000) {g cap : Nat} (hwv : L.wv = .slice (some ⟨g, 0, none⟩) s.wait.length cap) (hcap : s.wait.length ≤ cap) (_hcm : cap ≤ maxLen) :
    Calls Try.prog 31 #[.pointer (some ⟨b, 0, none⟩), .int .i64 n] w fun e w' => e = .returned (.tuple #[]) ∧ w'.heap[b]? = some (.cells #[.map (some L.bn), .map (some L.bs), .slice none 0 0, .int .i64 s.steps, .int .i64 s.left, .bool s.down] 53 (0, 0)) ∧ dirIs w' L.bs (L.ns + n) (onAll s.safe (s.wait.take n)) ∧ Two b L.bs w w' := by
  have hl2 := h.len2
  have c2 := h.cells.2.2.1
  rw [hwv] at c2
  have HH := Lib.hid h
  have HW := Lib.hid hwv
  clear h hwv
  go_enter Try.func31, Try.ntmps31
  go_wp2
  go_loopw [13] (fun i wr => ∃ k : Nat, k ≤ n ∧ i = .int .i64 k ∧ Settled w L s k wr) (fun i _ => n - (intOf i).toNat)
  case atStart => exact ⟨0, Nat.zero_le _, rfl, HH.out.safe, ⟨rfl, rfl, rfl, Nat.le_refl _, fun _ _ _ => rfl⟩⟩
  case round =>
    obtain ⟨k, hk, rfl, hdir, hg⟩ := hrel
    have hrow : wr.ownsRow base 70 3 L.wv s.wait.length (cellsOf s.wait) := HH.out.row.kept hg (by
      obtain ⟨es, c, ho⟩ := HH.out.safe.obj
      have := row_far HH.out.row ho (by simp)
      exact .inr fun e => this e.symm)
    have hblk : wr.heap[b]? = _ := (hg.block b HH.out.lt (by simpa using fun e => HH.out.safe.not_cells HH.out.blk e.symm)).trans HH.out.blk
    have q1 := cell_of_at hblk (i := 1) rfl
    have q2 := cell_of_at hblk (i := 2) rfl
    have qf : wr.frozen? ⟨b, 2, none⟩ = false := by simp [World.frozen?, hblk]
    by_cases hlt : k < n
    · obtain ⟨r0, r1, r2⟩ := row_cell hrow HW.out k (by omega)
      have hs1 := (HH.out.ok.named s.wait[k] (List.getElem_mem _)).1
      have hs2 := (HH.out.ok.named s.wait[k] (List.getElem_mem _)).2
      have HS : Hid (onAll s.safe (s.wait.take (k + 1)) = (s.wait[k]).on (onAll s.safe (s.wait.take k))) := onAll_take _ _ _ _
      generalize s.wait[k] = d at *
      obtain ⟨src, dst, f⟩ := d
      dsimp only at r0 r1 r2 hs1 hs2
      have hdir1 : dirIs (wr.alloc (.cells #[.string src, .string dst, .pointer (some ⟨f, 0, none⟩)] 70)).drew L.bs (L.ns + k) (onAll s.safe (s.wait.take k)) := hdir.move (Below.heap_alloc _ _ _ hdir.lt)
      have q3 : (wr.alloc (.cells #[.string src, .string dst, .pointer (some ⟨f, 0, none⟩)] 70)).cell? ⟨b, 1, none⟩ = some (.map (some L.bs)) := cell_of_at (at_alloc hblk) (i := 1) rfl
      have HD := Lib.hid hdir1
      have HG := Lib.hid hg
      clear hdir hg hrow hblk hdir1
      go_wp2
      go_region_with (go_at_call 43; refine (doTo_any _ ⟨src, dst, f⟩ _ _ _ (by omega) hs1 hs2 HD.out).mono ?_; rintro e w1 ⟨rfl, hd1, hg1⟩)
      all_goals
        have HD1 := Lib.hid hd1
        have HG1 : Hid (w.grownBy w1 (some L.bs)) := grownBy_trans (grownBy_trans HG.out (World.grownBy_alloc _ _ _)) ⟨hg1.os, hg1.tape, hg1.output, hg1.size, hg1.block⟩
        clear hd1 hg1
        go_wp2
        go_roundw
        case rel => exact ⟨k + 1, by omega, by go_num, by rw [HS.out]; exact HD1.out, HG1.out⟩
        case measure => simp [intOf]; omega
    · obtain rfl : k = n := by omega
      have HD := Lib.hid hdir
      have HG := Lib.hid hg
      have HB := Lib.hid hblk
      clear hdir hg hrow hblk
      go_wp2
      go_end0
      have hg := grown_set wr b 2 (.slice none 0 0)
      refine ⟨rfl, by simp [World.setCell, Array.getElem?_modify, HB.out], HD.out.move (hg.block _ HD.out.lt (by simpa using HD.out.not_cells HB.out)), ⟨hg.os.trans HG.out.os, hg.tape.trans HG.out.tape, hg.output.trans HG.out.output, Nat.le_trans HG.out.size hg.size, fun i hi h1 h2 => ?_⟩⟩
      exact (hg.block i (Nat.lt_of_lt_of_le hi HG.out.size) (by simpa using h1)).trans (HG.out.block i hi (by simpa using h2))
set_option maxRecDepth 100000 in
theorem settle_nil (h : FsAt base w b s L) (hwv : L.wv = .slice none 0 0) :
    Calls Try.prog 31 #[.pointer (some ⟨b, 0, none⟩), .int .i64 0] w fun e w' => e = .returned (.tuple #[]) ∧ w'.heap[b]? = some (.cells #[.map (some L.bn), .map (some L.bs), .slice none 0 0, .int .i64 s.steps, .int .i64 s.left, .bool s.down] 53 (0, 0)) ∧ dirIs w' L.bs L.ns s.safe ∧ Two b L.bs w w' := by
  have c2 := h.cells.2.2.1
  have f2 := h.free 2 (by omega)
  rw [hwv] at c2
  have HH := Lib.hid h
  have HW := Lib.hid hwv
  clear h hwv
  go_enter Try.func31, Try.ntmps31
  go_wp2
  go_loop [13] (fun i => i = .int .i64 0) (fun _ => 0)
  case atStart => rfl
  case round =>
    obtain rfl := hrel
    go_wp2
    go_end0
    have hg := grown_set w b 2 (.slice none 0 0)
    exact ⟨rfl, by simp [World.setCell, Array.getElem?_modify, HH.out.blk], HH.out.safe.move (hg.block _ HH.out.safe.lt (by simpa using HH.out.safe.not_cells HH.out.blk)), ⟨hg.os, hg.tape, hg.output, hg.size, fun i hi h1 _ => hg.block i hi (by simpa using h1)⟩⟩
theorem settle_any (h : FsAt base w b s L) (n : Nat) (hn : n ≤ s.wait.length) (hst : s.steps ≤ 1000000) :
    Calls Try.prog 31 #[.pointer (some ⟨b, 0, none⟩), .int .i64 n] w fun e w' => e = .returned (.tuple #[]) ∧ w'.heap[b]? = some (.cells #[.map (some L.bn), .map (some L.bs), .slice none 0 0, .int .i64 s.steps, .int .i64 s.left, .bool s.down] 53 (0, 0)) ∧ dirIs w' L.bs (L.ns + n) (onAll s.safe (s.wait.take n)) ∧ Two b L.bs w w' := by
  obtain ⟨_, hr⟩ := h.row
  rcases hr with ⟨e1, e2⟩ | ⟨g, cap, cur, e1, _, _, hc, hm, _⟩
  · have hw : s.wait = [] := List.eq_nil_of_length_eq_zero e2
    obtain rfl : n = 0 := by omega
    rw [hw]
    exact settle_nil h e1
  · exact settle_row h n hn hst e1 hc hm
theorem Two.at {c : Nat} {w w' : World} (h : Two b c w w') {k : Nat} {o : Obj} (hk : w.heap[k]? = some o) (h1 : k ≠ b) (h2 : k ≠ c) : w'.heap[k]? = some o := (h.block k (lt_of_at hk) h1 h2).trans hk
theorem FsAt.two_files (h : FsAt base w b s L) {w' : World} (ht : Two b L.bs w w') : SameFiles w w' := fun f c x y hf =>
  ht.at hf (fun e => by rw [e, fileAt, h.blk] at hf; simp at hf) (fun e => h.safe.not_cells hf e.symm)
theorem FsAt.two_kept (h : FsAt base w b s L) {w' : World} (ht : Two b L.bs w w') : Kept base w w' :=
  ⟨ht.os, ht.tape, ht.output, ht.size, fun k hk hc => ht.block k hk
    (fun e => by subst e; rcases hc with hc | hc; (· have := h.hb; omega); exact hc h.code)
    (fun e => by subst e; rcases hc with hc | hc; (· have := h.hs; omega); exact hc h.safe.code)⟩
theorem FsAt.two_now (h : FsAt base w b s L) {w' : World} (ht : Two b L.bs w w') : dirIs w' L.bn L.nn s.now :=
  h.now.move (ht.block _ h.now.lt (h.now.not_cells h.blk) h.ne)
def St.made (s : St) : St := { s with safe := s.now, wait := [] }
theorem settled_fs (h : FsAt base w b s L) {w' : World} (hblk : w'.heap[b]? = some (.cells #[.map (some L.bn), .map (some L.bs), .slice none 0 0, .int .i64 s.steps, .int .i64 s.left, .bool s.down] 53 (0, 0)))
    (hd : dirIs w' L.bs (L.ns + s.wait.length) (onAll s.safe (s.wait.take s.wait.length))) (ht : Two b L.bs w w') : FsAt base w' b s.made ⟨L.bn, L.bs, .slice none 0 0, L.nn, L.ns + s.wait.length⟩ where
  hb := h.hb
  blk := hblk
  hn := h.hn
  hs := h.hs
  ne := h.ne
  now := h.two_now ht
  safe := by
    rw [List.take_length, h.ok.fold] at hd
    exact hd
  row := World.ownsRow_nil _ _ _ _
  len1 := h.len1
  len2 := h.len2
  files := fun f hf => by
    have hf' : s.has f := by
      rcases hf with hf | hf | ⟨d, hd, _⟩
      · exact .inl hf
      · exact .inl hf
      · cases hd
    obtain ⟨h0, c, x, y, hx, hh⟩ := h.files f hf'
    exact ⟨h0, c, x, y, h.two_files ht f c x y hx, hh⟩
  ok := ⟨rfl, (fun d hd => by cases hd), h.ok.left⟩
theorem syncdir_down (h : FsAt base w b s L) (hd : s.down = true ∨ s.left = 0) :
    Calls Try.prog 13 #[.pointer (some ⟨b, 0, none⟩)] w fun e w' => e = .returned (.int .i64 17) ∧ FsAt base w' b s.fell L ∧ Kept base w w' ∧ SameFiles w w' := by
  have HH := Lib.hid h
  have HD := Lib.hid hd
  clear h hd
  go_enter Try.func13, Try.ntmps13
  go_wp2_with fail
  refine (step_down HH.out HD.out).mono ?_
  rintro e w1 ⟨rfl, hF, hK, hS⟩
  have HF := Lib.hid hF
  have HS := Lib.hid hS
  clear hF hS
  go_wp2
  go_ret
  exact ⟨rfl, HF.out, hK, HS.out⟩
theorem syncdir_ok (h : FsAt base w b s L) (hd : s.down = false) (hz : s.left ≠ 0) (hst : s.steps ≤ 900000) :
    Calls Try.prog 13 #[.pointer (some ⟨b, 0, none⟩)] w fun e w' => e = .returned (.int .i64 0) ∧ (∃ L', FsAt base w' b s.step.made L') ∧ Kept base w w' ∧ SameFiles w w' := by
  have HH := Lib.hid h
  have HD := Lib.hid hd
  have HZ := Lib.hid hz
  have hlw : s.wait.length ≤ 1000000 := by have := h.len2; omega
  clear h hd hz
  go_enter Try.func13, Try.ntmps13
  go_wp2_with fail
  refine (step_ok HH.out HD.out HZ.out (by omega)).mono ?_
  rintro e w1 ⟨rfl, hF, hK, hS⟩
  have c2 := hF.cells.2.2.1
  have HF := Lib.hid hF
  have HS := Lib.hid hS
  have HC := Lib.hid (settle_any hF s.wait.length (Nat.le_refl _) (by show s.steps + 1 ≤ _; omega))
  have hwv := wv_cases hF
  clear hF hS
  rcases hwv with ⟨e1, e2⟩ | ⟨g, cap, e1⟩
  · have e3 : s.wait.length = 0 := by have : s.wait = [] := e2; rw [this]; rfl
    rw [e1] at c2
    have HC0 : Hid _ := HC
    rw [e3] at HC0
    have H3 := Lib.hid e3
    clear e1 e2 e3 HC
    go_wp2_with fail
    refine HC0.out.mono ?_
    rintro e w2 ⟨rfl, q1, q2, q3⟩
    have Q1 := Lib.hid q1
    have Q2 := Lib.hid q2
    clear q1 q2
    go_wp2
    go_ret
    refine ⟨rfl, ⟨_, settled_fs HF.out Q1.out (by have := Q2.out; rw [← H3.out] at this; exact this) q3⟩, hK.trans (HF.out.two_kept q3), HS.out.trans (HF.out.two_files q3)⟩
  · have e1' : L.wv = .slice (some ⟨g, 0, none⟩) s.wait.length cap := e1
    rw [e1'] at c2
    clear e1 e1'
    go_wp2_with fail
    refine HC.out.mono ?_
    rintro e w2 ⟨rfl, q1, q2, q3⟩
    have Q1 := Lib.hid q1
    have Q2 := Lib.hid q2
    clear q1 q2
    go_wp2
    go_ret
    exact ⟨rfl, ⟨_, settled_fs HF.out Q1.out Q2.out q3⟩, hK.trans (HF.out.two_kept q3), HS.out.trans (HF.out.two_files q3)⟩
end Go.Proofs.Ytimcoofmemcojaa

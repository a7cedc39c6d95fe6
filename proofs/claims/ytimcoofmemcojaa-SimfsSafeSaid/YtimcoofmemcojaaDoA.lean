/-
  The law's Do: an act, by both.
-/
import Derived.Test.YtimcoofmemcojaaBoth
namespace Go.Proofs.Ytimcoofmemcojaa
open Go.ChangeShapes Go.WideShapes Go.ChangeAt Go.RowKit
set_option linter.unusedVariables false
variable {base : Nat} {w : World} {b : Nat} {s : St} {L : Lay} {r : RSt} {k : Nat}
/-- Cuts that came in. -/
def CutsV (base : Nat) (w : World) (a : Option Addr) (n : Nat) : Prop := n = 0 ∨ ∃ (gc off : Nat) (z : Nat → Int), a = some ⟨gc, off, none⟩ ∧ CutsAt base w gc off n z
theorem CutsV.kept {w' : World} {a : Option Addr} {n : Nat} (h : CutsV base w a n) (hk : Kept base w w') (hb : base ≤ w.heap.size) : CutsV base w' a n := by
  rcases h with h | ⟨gc, off, z, e, h⟩
  · exact .inl h
  · exact .inr ⟨gc, off, z, e, h.kept hk hb⟩
theorem CutsV.is {a : Option Addr} {n c : Nat} (h : CutsV base w a n) (hn : n ≤ 1000) : CutsIs w (.slice a n c) n := by
  refine ⟨by omega, a, c, rfl, ?_⟩
  rcases h with h | ⟨gc, off, z, e, h⟩
  · exact .inl h
  · exact .inr ⟨gc, off, z, e, fun i hi => ⟨h.cell i hi, h.le i⟩⟩
theorem tear_of (h : FsAt base w b s L) (hst : s.steps ≤ 100000) {a : Option Addr} {n c : Nat} (hc : CutsV base w a n) (hn : n ≤ 1000) : Calls Try.prog 32 #[.pointer (some ⟨b, 0, none⟩), .slice a n c] w (TearIs base w b s L) := by
  rcases hc with rfl | ⟨gc, off, z, rfl, hc⟩
  · exact tearfs_none h hst a c
  · exact tearfs_some h hst hc (by omega)
def ActIs (base : Nat) (w : World) (b k : Nat) (e : Ending) (w' : World) : Prop := ∃ (s' : St) (L' : Lay) (r' : RSt) (R' : RLay), e = .returned (.tuple #[rval r' R', .bool true]) ∧ FsAt base w' b s' L' ∧ RAt w' r' R' ∧ Rel s' r' (k + 1) ∧ Kept base w w'
/-- The three boxes of Do. -/
structure DBox (W : World) (b0 : Nat) (cs ac z : Array Value) : Prop where
  bx : W.heap[b0]? = some (.cells cs 31 (0, 0))
  ax : W.heap[b0 + 1]? = some (.cells ac 34 (0, 0))
  rx : W.heap[b0 + 2]? = some (.cells z 31 (0, 0))
theorem DBox.keeps {W W' : World} {b0 : Nat} {cs ac z : Array Value} (h : DBox W b0 cs ac z) (hk : Kept base W W') : DBox W' b0 cs ac z :=
  ⟨hk.at h.bx (by decide), hk.at h.ax (by decide), hk.at h.rx (by decide)⟩
theorem dbox_made (w : World) (cs ac z : Array Value) : DBox (((w.alloc (.cells cs 31)).alloc (.cells ac 34)).alloc (.cells z 31)) w.heap.size cs ac z := by
  refine ⟨at_alloc (at_alloc (at_new w _)), ?_, ?_⟩
  · have := at_new (w.alloc (.cells cs 31)) (.cells ac 34)
    rw [World.size_alloc] at this
    exact at_alloc this
  · have := at_new ((w.alloc (.cells cs 31)).alloc (.cells ac 34)) (.cells z 31)
    rw [World.size_alloc, World.size_alloc] at this
    exact this
theorem Kept.fresh' {a c : World} (h : Fresh a c) : Kept base a c := (Kept.refl base a).fresh h
theorem Kept.own {a c : World} {X : Nat} (h : Kept base w a) (g : a.grownBy c (some X)) (hX : w.heap.size ≤ X) : Kept base w c :=
  ⟨g.os.trans h.os, g.tape.trans h.tape, g.output.trans h.output, Nat.le_trans h.size g.size, fun i hi hb => by
    rw [g.block i (Nat.lt_of_lt_of_le hi h.size) (by simp; omega)]
    exact h.block i hi hb⟩
/-- A system stands where a box of another kind turns. -/
theorem FsAt.off {w' : World} {X : Nat} {cs : Array Value} {T : TypeId} {z : Nat × Nat} (h : FsAt base w b s L) (hX : w.heap[X]? = some (.cells cs T z)) (hT : T ≠ 53 ∧ T ≠ 67 ∧ T ≠ 70) (g : w.grownBy w' (some X)) : FsAt base w' b s L where
  hb := h.hb
  blk := grown_keep g h.blk (fun e => by
    injection e with e
    subst e
    have := h.blk
    rw [hX] at this
    injection this with this
    injection this with _ e2
    exact hT.1 e2)
  hn := h.hn
  hs := h.hs
  ne := h.ne
  now := h.now.move (g.block _ h.now.lt (fun e => by injection e with e; exact h.now.not_cells hX e))
  safe := h.safe.move (g.block _ h.safe.lt (fun e => by injection e with e; exact h.safe.not_cells hX e))
  row := own_type h.row hX (fun e => hT.2.2 e.symm) g
  len1 := h.len1
  len2 := h.len2
  files := fun f hf => (h.files f hf).move (g.block _ (h.files f hf).lt (fun e => by
    injection e with e
    subst e
    obtain ⟨_, c, x, y, h2, _⟩ := h.files f hf
    rw [fileAt, hX] at h2
    injection h2 with h2
    injection h2 with _ e2
    exact hT.2.1 e2))
  ok := h.ok
set_option maxRecDepth 100000 in
set_option maxHeartbeats 2000000 in
theorem act_write (h : Ready0 base w b s L r k) (R : RLay) (name dst : ByteArray) (an : Int) (ca : Option Addr) (cn cc : Nat) (hs : name.size ≤ 1000) (hs2 : dst.size ≤ 1000) (han : -9223372036854775808 ≤ an ∧ an ≤ 9223372036854775807) (hcn : cn ≤ 1000) (hcv : CutsV base w ca cn) (hat : RAt w r R) :
    Calls Try.prog 8 #[.pointer (some ⟨b, 0, none⟩), rval r R, .agg #[.int .u8 0, .string name, .string dst, .int .i64 an, .slice ca cn cc]] w (ActIs base w b k) := by
  have hf1 : Fresh w (((w.alloc (.cells #[.slice R.fa r.files.length R.fc, .slice R.na r.now.length R.nc, .slice R.sa r.safe.length R.sc, .slice R.wa r.wait.length R.wc, .int .i64 r.left, .int .i64 r.steps, .bool r.down] 31)).alloc (.cells #[.int .u8 0, .string name, .string dst, .int .i64 an, .slice ca cn cc] 34)).alloc (.cells #[.slice none 0 0, .slice none 0 0, .slice none 0 0, .slice none 0 0, .int .i64 0, .int .i64 0, .bool false] 31)) := (((Fresh.refl w).alloc _).alloc _).alloc _
  have h1 : Ready0 base (((w.alloc (.cells #[.slice R.fa r.files.length R.fc, .slice R.na r.now.length R.nc, .slice R.sa r.safe.length R.sc, .slice R.wa r.wait.length R.wc, .int .i64 r.left, .int .i64 r.steps, .bool r.down] 31)).alloc (.cells #[.int .u8 0, .string name, .string dst, .int .i64 an, .slice ca cn cc] 34)).alloc (.cells #[.slice none 0 0, .slice none 0 0, .slice none 0 0, .slice none 0 0, .int .i64 0, .int .i64 0, .bool false] 31)) b s L r k := ⟨h.fs.move hf1, h.rel, h.few⟩
  obtain ⟨c, P, Q, hc, hr, hm⟩ := write_both h1 name dst hs hs2
  have HC := Lib.hid hc
  have HR := Lib.hid hr
  have HM := Lib.hid hm
  clear hc hr hm
  have HAT := Lib.hid (hat.move hf1)
  have HB1 := Lib.hid (dbox_made w #[.slice R.fa r.files.length R.fc, .slice R.na r.now.length R.nc, .slice R.sa r.safe.length R.sc, .slice R.wa r.wait.length R.wc, .int .i64 r.left, .int .i64 r.steps, .bool r.down] #[.int .u8 0, .string name, .string dst, .int .i64 an, .slice ca cn cc] #[.slice none 0 0, .slice none 0 0, .slice none 0 0, .slice none 0 0, .int .i64 0, .int .i64 0, .bool false])
  have HK1 := Lib.hid (Kept.fresh' (base := base) hf1)
  have HFS1 := Lib.hid h1.fs
  have HREL := Lib.hid h.rel
  obtain ⟨fl, nl, sl, wl, left, steps, down⟩ := r
  obtain ⟨fa, fc, na, nc, sa, sc, wa, wc⟩ := R
  dsimp only [rval] at *
  have hsz1 : w.heap.size ≤ (((w.alloc (.cells #[.slice fa fl.length fc, .slice na nl.length nc, .slice sa sl.length sc, .slice wa wl.length wc, .int .i64 left, .int .i64 steps, .bool down] 31)).alloc (.cells #[.int .u8 0, .string name, .string dst, .int .i64 an, .slice ca cn cc] 34)).alloc (.cells #[.slice none 0 0, .slice none 0 0, .slice none 0 0, .slice none 0 0, .int .i64 0, .int .i64 0, .bool false] 31)).heap.size := hf1.size
  have HFR1 := Lib.hid hf1
  clear h h1 hat hf1
  go_enter Try.func8, Try.ntmps8
  go_wp2_with fail
  refine HC.out.mono ?_
  rintro e w2 ⟨rfl, ⟨s', L', hp, hfs⟩, hk2⟩
  have HB2 := Lib.hid (HB1.out.keeps hk2)
  have HFS2 := Lib.hid hfs
  have HAT2 := Lib.hid (HAT.out.keeps hk2)
  have HK2 := Lib.hid (HK1.out.trans hk2)
  have HP := Lib.hid hp
  clear hfs hk2 hp HC
  obtain ⟨⟨p0, p1, p2, p3, p4, p5, p6⟩, ⟨q0, q1, q2, q3, q4, q5, q6⟩⟩ := (RBox.mk HB2.out.bx).cells
  have a0 := cell_of_at HB2.out.ax (i := 0) rfl
  have a1 := cell_of_at HB2.out.ax (i := 1) rfl
  have a2 := cell_of_at HB2.out.ax (i := 2) rfl
  have a3 := cell_of_at HB2.out.ax (i := 3) rfl
  have a4 := cell_of_at HB2.out.ax (i := 4) rfl
  go_wp2_with fail
  refine (HR.out w2 _ HAT2.out).mono ?_
  rintro e w3 ⟨⟨fl', nl', sl', wl', left', steps', down'⟩, hq, ⟨fa', fc', na', nc', sa', sc', wa', wc'⟩, rfl, hr3, hf3⟩
  dsimp only [rval] at hr3 ⊢
  have HREL4 := Lib.hid (HM.out _ _ HP.out hq)
  clear hq
  have HB3 := Lib.hid (DBox.mk (hf3.at HB2.out.bx) (hf3.at HB2.out.ax) (hf3.at HB2.out.rx))
  have HR3 := Lib.hid hr3
  have HFS3 := Lib.hid (HFS2.out.move hf3)
  have HK3 := Lib.hid (HK2.out.fresh hf3)
  clear hf3 hr3
  clear p0 p1 p2 p3 p4 p5 p6 q0 q1 q2 q3 q4 q5 q6 a0 a1 a2 a3 a4
  obtain ⟨⟨p0, p1, p2, p3, p4, p5, p6⟩, ⟨q0, q1, q2, q3, q4, q5, q6⟩⟩ := (RBox.mk HB3.out.bx).cells
  have a0 := cell_of_at HB3.out.ax (i := 0) rfl
  have a1 := cell_of_at HB3.out.ax (i := 1) rfl
  have a2 := cell_of_at HB3.out.ax (i := 2) rfl
  have a3 := cell_of_at HB3.out.ax (i := 3) rfl
  have a4 := cell_of_at HB3.out.ax (i := 4) rfl
  go_upto_region 24 with (fail)
  obtain ⟨hbx, hgx⟩ := box_set (RBox.mk HB3.out.bx) (.slice fa' fl'.length fc') (.slice na' nl'.length nc') (.slice sa' sl'.length sc') (.slice wa' wl'.length wc') (.int .i64 left') (.int .i64 (steps' : Nat)) (.bool down')
  clear p0 p1 p2 p3 p4 p5 p6 q0 q1 q2 q3 q4 q5 q6 a0 a1 a2 a3 a4
  generalize (((((((w3.setCell ⟨w.heap.size, 0, none⟩ (.slice fa' fl'.length fc')).setCell ⟨w.heap.size, 1, none⟩ (.slice na' nl'.length nc')).setCell ⟨w.heap.size, 2, none⟩ (.slice sa' sl'.length sc')).setCell ⟨w.heap.size, 3, none⟩ (.slice wa' wl'.length wc')).setCell ⟨w.heap.size, 4, none⟩ (.int .i64 left')).setCell ⟨w.heap.size, 5, none⟩ (.int .i64 (steps' : Nat))).setCell ⟨w.heap.size, 6, none⟩ (.bool down')) = w4 at hbx hgx ⊢
  have HZ4 : Hid (RBox w4 (w.heap.size + 1 + 1) _ _ _ _ _ _ _) := ⟨grown_keep hgx HB3.out.rx (by simp; try omega)⟩
  have HR4 := Lib.hid (HR3.out.box HB3.out.bx hgx)
  have HFS4 := Lib.hid (HFS3.out.off HB3.out.bx (by decide) hgx)
  have HK4 := Lib.hid (HK3.out.own hgx (Nat.le_refl _))
  obtain ⟨⟨p0, p1, p2, p3, p4, p5, p6⟩, _⟩ := hbx.cells
  obtain ⟨⟨s0, s1, s2, s3, s4, s5, s6⟩, ⟨t0, t1, t2, t3, t4, t5, t6⟩⟩ := HZ4.out.cells
  clear hbx hgx
  go_wp2
  have HZG := Lib.hid (box_set HZ4.out (.slice fa' fl'.length fc') (.slice na' nl'.length nc') (.slice sa' sl'.length sc') (.slice wa' wl'.length wc') (.int .i64 left') (.int .i64 (steps' : Nat)) (.bool down'))
  clear s0 s1 s2 s3 s4 s5 s6 t0 t1 t2 t3 t4 t5 t6 p0 p1 p2 p3 p4 p5 p6
  generalize (((((((w4.setCell ⟨w.heap.size + 1 + 1, 0, none⟩ (.slice fa' fl'.length fc')).setCell ⟨w.heap.size + 1 + 1, 1, none⟩ (.slice na' nl'.length nc')).setCell ⟨w.heap.size + 1 + 1, 2, none⟩ (.slice sa' sl'.length sc')).setCell ⟨w.heap.size + 1 + 1, 3, none⟩ (.slice wa' wl'.length wc')).setCell ⟨w.heap.size + 1 + 1, 4, none⟩ (.int .i64 left')).setCell ⟨w.heap.size + 1 + 1, 5, none⟩ (.int .i64 (steps' : Nat))).setCell ⟨w.heap.size + 1 + 1, 6, none⟩ (.bool down')) = w5 at *
  obtain ⟨⟨s0, s1, s2, s3, s4, s5, s6⟩, _⟩ := HZG.out.1.cells
  exact bodyPost_ret (v := .tuple #[.agg #[.slice fa' fl'.length fc', .slice na' nl'.length nc', .slice sa' sl'.length sc', .slice wa' wl'.length wc', .int .i64 left', .int .i64 (steps' : Nat), .bool down'], .bool true]) (by simp [results, Try.results8, go_sem, s0, s1, s2, s3, s4, s5, s6]) rfl ⟨s', L', ⟨fl', nl', sl', wl', left', steps', down'⟩, ⟨fa', fc', na', nc', sa', sc', wa', wc'⟩, rfl, HFS4.out.off HZ4.out.at_ (by decide) HZG.out.2, HR4.out.box HZ4.out.at_ HZG.out.2, HREL4.out, HK4.out.own HZG.out.2 (by omega)⟩
set_option maxRecDepth 100000 in
set_option maxHeartbeats 2000000 in
theorem act_sync (h : Ready0 base w b s L r k) (R : RLay) (name dst : ByteArray) (an : Int) (ca : Option Addr) (cn cc : Nat) (hs : name.size ≤ 1000) (hs2 : dst.size ≤ 1000) (han : -9223372036854775808 ≤ an ∧ an ≤ 9223372036854775807) (hcn : cn ≤ 1000) (hcv : CutsV base w ca cn) (hat : RAt w r R) :
    Calls Try.prog 8 #[.pointer (some ⟨b, 0, none⟩), rval r R, .agg #[.int .u8 1, .string name, .string dst, .int .i64 an, .slice ca cn cc]] w (ActIs base w b k) := by
  have hf1 : Fresh w (((w.alloc (.cells #[.slice R.fa r.files.length R.fc, .slice R.na r.now.length R.nc, .slice R.sa r.safe.length R.sc, .slice R.wa r.wait.length R.wc, .int .i64 r.left, .int .i64 r.steps, .bool r.down] 31)).alloc (.cells #[.int .u8 1, .string name, .string dst, .int .i64 an, .slice ca cn cc] 34)).alloc (.cells #[.slice none 0 0, .slice none 0 0, .slice none 0 0, .slice none 0 0, .int .i64 0, .int .i64 0, .bool false] 31)) := (((Fresh.refl w).alloc _).alloc _).alloc _
  have h1 : Ready0 base (((w.alloc (.cells #[.slice R.fa r.files.length R.fc, .slice R.na r.now.length R.nc, .slice R.sa r.safe.length R.sc, .slice R.wa r.wait.length R.wc, .int .i64 r.left, .int .i64 r.steps, .bool r.down] 31)).alloc (.cells #[.int .u8 1, .string name, .string dst, .int .i64 an, .slice ca cn cc] 34)).alloc (.cells #[.slice none 0 0, .slice none 0 0, .slice none 0 0, .slice none 0 0, .int .i64 0, .int .i64 0, .bool false] 31)) b s L r k := ⟨h.fs.move hf1, h.rel, h.few⟩
  obtain ⟨c, P, Q, hc, hr, hm⟩ := sync_both h1 name hs
  have HC := Lib.hid hc
  have HR := Lib.hid hr
  have HM := Lib.hid hm
  clear hc hr hm
  have HAT := Lib.hid (hat.move hf1)
  have HB1 := Lib.hid (dbox_made w #[.slice R.fa r.files.length R.fc, .slice R.na r.now.length R.nc, .slice R.sa r.safe.length R.sc, .slice R.wa r.wait.length R.wc, .int .i64 r.left, .int .i64 r.steps, .bool r.down] #[.int .u8 1, .string name, .string dst, .int .i64 an, .slice ca cn cc] #[.slice none 0 0, .slice none 0 0, .slice none 0 0, .slice none 0 0, .int .i64 0, .int .i64 0, .bool false])
  have HK1 := Lib.hid (Kept.fresh' (base := base) hf1)
  have HFS1 := Lib.hid h1.fs
  have HREL := Lib.hid h.rel
  obtain ⟨fl, nl, sl, wl, left, steps, down⟩ := r
  obtain ⟨fa, fc, na, nc, sa, sc, wa, wc⟩ := R
  dsimp only [rval] at *
  have hsz1 : w.heap.size ≤ (((w.alloc (.cells #[.slice fa fl.length fc, .slice na nl.length nc, .slice sa sl.length sc, .slice wa wl.length wc, .int .i64 left, .int .i64 steps, .bool down] 31)).alloc (.cells #[.int .u8 1, .string name, .string dst, .int .i64 an, .slice ca cn cc] 34)).alloc (.cells #[.slice none 0 0, .slice none 0 0, .slice none 0 0, .slice none 0 0, .int .i64 0, .int .i64 0, .bool false] 31)).heap.size := hf1.size
  have HFR1 := Lib.hid hf1
  clear h h1 hat hf1
  go_enter Try.func8, Try.ntmps8
  go_wp2_with fail
  refine HC.out.mono ?_
  rintro e w2 ⟨rfl, ⟨s', L', hp, hfs⟩, hk2⟩
  have HB2 := Lib.hid (HB1.out.keeps hk2)
  have HFS2 := Lib.hid hfs
  have HAT2 := Lib.hid (HAT.out.keeps hk2)
  have HK2 := Lib.hid (HK1.out.trans hk2)
  have HP := Lib.hid hp
  clear hfs hk2 hp HC
  obtain ⟨⟨p0, p1, p2, p3, p4, p5, p6⟩, ⟨q0, q1, q2, q3, q4, q5, q6⟩⟩ := (RBox.mk HB2.out.bx).cells
  have a0 := cell_of_at HB2.out.ax (i := 0) rfl
  have a1 := cell_of_at HB2.out.ax (i := 1) rfl
  have a2 := cell_of_at HB2.out.ax (i := 2) rfl
  have a3 := cell_of_at HB2.out.ax (i := 3) rfl
  have a4 := cell_of_at HB2.out.ax (i := 4) rfl
  go_wp2_with fail
  refine (HR.out w2 _ HAT2.out).mono ?_
  rintro e w3 ⟨⟨fl', nl', sl', wl', left', steps', down'⟩, hq, ⟨fa', fc', na', nc', sa', sc', wa', wc'⟩, rfl, hr3, hf3⟩
  dsimp only [rval] at hr3 ⊢
  have HREL4 := Lib.hid (HM.out _ _ HP.out hq)
  clear hq
  have HB3 := Lib.hid (DBox.mk (hf3.at HB2.out.bx) (hf3.at HB2.out.ax) (hf3.at HB2.out.rx))
  have HR3 := Lib.hid hr3
  have HFS3 := Lib.hid (HFS2.out.move hf3)
  have HK3 := Lib.hid (HK2.out.fresh hf3)
  clear hf3 hr3
  clear p0 p1 p2 p3 p4 p5 p6 q0 q1 q2 q3 q4 q5 q6 a0 a1 a2 a3 a4
  obtain ⟨⟨p0, p1, p2, p3, p4, p5, p6⟩, ⟨q0, q1, q2, q3, q4, q5, q6⟩⟩ := (RBox.mk HB3.out.bx).cells
  have a0 := cell_of_at HB3.out.ax (i := 0) rfl
  have a1 := cell_of_at HB3.out.ax (i := 1) rfl
  have a2 := cell_of_at HB3.out.ax (i := 2) rfl
  have a3 := cell_of_at HB3.out.ax (i := 3) rfl
  have a4 := cell_of_at HB3.out.ax (i := 4) rfl
  go_upto_region 24 with (fail)
  obtain ⟨hbx, hgx⟩ := box_set (RBox.mk HB3.out.bx) (.slice fa' fl'.length fc') (.slice na' nl'.length nc') (.slice sa' sl'.length sc') (.slice wa' wl'.length wc') (.int .i64 left') (.int .i64 (steps' : Nat)) (.bool down')
  clear p0 p1 p2 p3 p4 p5 p6 q0 q1 q2 q3 q4 q5 q6 a0 a1 a2 a3 a4
  generalize (((((((w3.setCell ⟨w.heap.size, 0, none⟩ (.slice fa' fl'.length fc')).setCell ⟨w.heap.size, 1, none⟩ (.slice na' nl'.length nc')).setCell ⟨w.heap.size, 2, none⟩ (.slice sa' sl'.length sc')).setCell ⟨w.heap.size, 3, none⟩ (.slice wa' wl'.length wc')).setCell ⟨w.heap.size, 4, none⟩ (.int .i64 left')).setCell ⟨w.heap.size, 5, none⟩ (.int .i64 (steps' : Nat))).setCell ⟨w.heap.size, 6, none⟩ (.bool down')) = w4 at hbx hgx ⊢
  have HZ4 : Hid (RBox w4 (w.heap.size + 1 + 1) _ _ _ _ _ _ _) := ⟨grown_keep hgx HB3.out.rx (by simp; try omega)⟩
  have HR4 := Lib.hid (HR3.out.box HB3.out.bx hgx)
  have HFS4 := Lib.hid (HFS3.out.off HB3.out.bx (by decide) hgx)
  have HK4 := Lib.hid (HK3.out.own hgx (Nat.le_refl _))
  obtain ⟨⟨p0, p1, p2, p3, p4, p5, p6⟩, _⟩ := hbx.cells
  obtain ⟨⟨s0, s1, s2, s3, s4, s5, s6⟩, ⟨t0, t1, t2, t3, t4, t5, t6⟩⟩ := HZ4.out.cells
  clear hbx hgx
  go_wp2
  have HZG := Lib.hid (box_set HZ4.out (.slice fa' fl'.length fc') (.slice na' nl'.length nc') (.slice sa' sl'.length sc') (.slice wa' wl'.length wc') (.int .i64 left') (.int .i64 (steps' : Nat)) (.bool down'))
  clear s0 s1 s2 s3 s4 s5 s6 t0 t1 t2 t3 t4 t5 t6 p0 p1 p2 p3 p4 p5 p6
  generalize (((((((w4.setCell ⟨w.heap.size + 1 + 1, 0, none⟩ (.slice fa' fl'.length fc')).setCell ⟨w.heap.size + 1 + 1, 1, none⟩ (.slice na' nl'.length nc')).setCell ⟨w.heap.size + 1 + 1, 2, none⟩ (.slice sa' sl'.length sc')).setCell ⟨w.heap.size + 1 + 1, 3, none⟩ (.slice wa' wl'.length wc')).setCell ⟨w.heap.size + 1 + 1, 4, none⟩ (.int .i64 left')).setCell ⟨w.heap.size + 1 + 1, 5, none⟩ (.int .i64 (steps' : Nat))).setCell ⟨w.heap.size + 1 + 1, 6, none⟩ (.bool down')) = w5 at *
  obtain ⟨⟨s0, s1, s2, s3, s4, s5, s6⟩, _⟩ := HZG.out.1.cells
  exact bodyPost_ret (v := .tuple #[.agg #[.slice fa' fl'.length fc', .slice na' nl'.length nc', .slice sa' sl'.length sc', .slice wa' wl'.length wc', .int .i64 left', .int .i64 (steps' : Nat), .bool down'], .bool true]) (by simp [results, Try.results8, go_sem, s0, s1, s2, s3, s4, s5, s6]) rfl ⟨s', L', ⟨fl', nl', sl', wl', left', steps', down'⟩, ⟨fa', fc', na', nc', sa', sc', wa', wc'⟩, rfl, HFS4.out.off HZ4.out.at_ (by decide) HZG.out.2, HR4.out.box HZ4.out.at_ HZG.out.2, HREL4.out, HK4.out.own HZG.out.2 (by omega)⟩
set_option maxRecDepth 100000 in
set_option maxHeartbeats 2000000 in
theorem act_rename (h : Ready0 base w b s L r k) (R : RLay) (name dst : ByteArray) (an : Int) (ca : Option Addr) (cn cc : Nat) (hs : name.size ≤ 1000) (hs2 : dst.size ≤ 1000) (han : -9223372036854775808 ≤ an ∧ an ≤ 9223372036854775807) (hcn : cn ≤ 1000) (hcv : CutsV base w ca cn) (hat : RAt w r R) :
    Calls Try.prog 8 #[.pointer (some ⟨b, 0, none⟩), rval r R, .agg #[.int .u8 2, .string name, .string dst, .int .i64 an, .slice ca cn cc]] w (ActIs base w b k) := by
  have hf1 : Fresh w (((w.alloc (.cells #[.slice R.fa r.files.length R.fc, .slice R.na r.now.length R.nc, .slice R.sa r.safe.length R.sc, .slice R.wa r.wait.length R.wc, .int .i64 r.left, .int .i64 r.steps, .bool r.down] 31)).alloc (.cells #[.int .u8 2, .string name, .string dst, .int .i64 an, .slice ca cn cc] 34)).alloc (.cells #[.slice none 0 0, .slice none 0 0, .slice none 0 0, .slice none 0 0, .int .i64 0, .int .i64 0, .bool false] 31)) := (((Fresh.refl w).alloc _).alloc _).alloc _
  have h1 : Ready0 base (((w.alloc (.cells #[.slice R.fa r.files.length R.fc, .slice R.na r.now.length R.nc, .slice R.sa r.safe.length R.sc, .slice R.wa r.wait.length R.wc, .int .i64 r.left, .int .i64 r.steps, .bool r.down] 31)).alloc (.cells #[.int .u8 2, .string name, .string dst, .int .i64 an, .slice ca cn cc] 34)).alloc (.cells #[.slice none 0 0, .slice none 0 0, .slice none 0 0, .slice none 0 0, .int .i64 0, .int .i64 0, .bool false] 31)) b s L r k := ⟨h.fs.move hf1, h.rel, h.few⟩
  obtain ⟨c, P, Q, hc, hr, hm⟩ := rename_both h1 name dst hs hs2
  have HC := Lib.hid hc
  have HR := Lib.hid hr
  have HM := Lib.hid hm
  clear hc hr hm
  have HAT := Lib.hid (hat.move hf1)
  have HB1 := Lib.hid (dbox_made w #[.slice R.fa r.files.length R.fc, .slice R.na r.now.length R.nc, .slice R.sa r.safe.length R.sc, .slice R.wa r.wait.length R.wc, .int .i64 r.left, .int .i64 r.steps, .bool r.down] #[.int .u8 2, .string name, .string dst, .int .i64 an, .slice ca cn cc] #[.slice none 0 0, .slice none 0 0, .slice none 0 0, .slice none 0 0, .int .i64 0, .int .i64 0, .bool false])
  have HK1 := Lib.hid (Kept.fresh' (base := base) hf1)
  have HFS1 := Lib.hid h1.fs
  have HREL := Lib.hid h.rel
  obtain ⟨fl, nl, sl, wl, left, steps, down⟩ := r
  obtain ⟨fa, fc, na, nc, sa, sc, wa, wc⟩ := R
  dsimp only [rval] at *
  have hsz1 : w.heap.size ≤ (((w.alloc (.cells #[.slice fa fl.length fc, .slice na nl.length nc, .slice sa sl.length sc, .slice wa wl.length wc, .int .i64 left, .int .i64 steps, .bool down] 31)).alloc (.cells #[.int .u8 2, .string name, .string dst, .int .i64 an, .slice ca cn cc] 34)).alloc (.cells #[.slice none 0 0, .slice none 0 0, .slice none 0 0, .slice none 0 0, .int .i64 0, .int .i64 0, .bool false] 31)).heap.size := hf1.size
  have HFR1 := Lib.hid hf1
  clear h h1 hat hf1
  go_enter Try.func8, Try.ntmps8
  go_wp2_with fail
  refine HC.out.mono ?_
  rintro e w2 ⟨rfl, ⟨s', L', hp, hfs⟩, hk2⟩
  have HB2 := Lib.hid (HB1.out.keeps hk2)
  have HFS2 := Lib.hid hfs
  have HAT2 := Lib.hid (HAT.out.keeps hk2)
  have HK2 := Lib.hid (HK1.out.trans hk2)
  have HP := Lib.hid hp
  clear hfs hk2 hp HC
  obtain ⟨⟨p0, p1, p2, p3, p4, p5, p6⟩, ⟨q0, q1, q2, q3, q4, q5, q6⟩⟩ := (RBox.mk HB2.out.bx).cells
  have a0 := cell_of_at HB2.out.ax (i := 0) rfl
  have a1 := cell_of_at HB2.out.ax (i := 1) rfl
  have a2 := cell_of_at HB2.out.ax (i := 2) rfl
  have a3 := cell_of_at HB2.out.ax (i := 3) rfl
  have a4 := cell_of_at HB2.out.ax (i := 4) rfl
  go_wp2_with fail
  refine (HR.out w2 _ HAT2.out).mono ?_
  rintro e w3 ⟨⟨fl', nl', sl', wl', left', steps', down'⟩, hq, ⟨fa', fc', na', nc', sa', sc', wa', wc'⟩, rfl, hr3, hf3⟩
  dsimp only [rval] at hr3 ⊢
  have HREL4 := Lib.hid (HM.out _ _ HP.out hq)
  clear hq
  have HB3 := Lib.hid (DBox.mk (hf3.at HB2.out.bx) (hf3.at HB2.out.ax) (hf3.at HB2.out.rx))
  have HR3 := Lib.hid hr3
  have HFS3 := Lib.hid (HFS2.out.move hf3)
  have HK3 := Lib.hid (HK2.out.fresh hf3)
  clear hf3 hr3
  clear p0 p1 p2 p3 p4 p5 p6 q0 q1 q2 q3 q4 q5 q6 a0 a1 a2 a3 a4
  obtain ⟨⟨p0, p1, p2, p3, p4, p5, p6⟩, ⟨q0, q1, q2, q3, q4, q5, q6⟩⟩ := (RBox.mk HB3.out.bx).cells
  have a0 := cell_of_at HB3.out.ax (i := 0) rfl
  have a1 := cell_of_at HB3.out.ax (i := 1) rfl
  have a2 := cell_of_at HB3.out.ax (i := 2) rfl
  have a3 := cell_of_at HB3.out.ax (i := 3) rfl
  have a4 := cell_of_at HB3.out.ax (i := 4) rfl
  go_upto_region 24 with (fail)
  obtain ⟨hbx, hgx⟩ := box_set (RBox.mk HB3.out.bx) (.slice fa' fl'.length fc') (.slice na' nl'.length nc') (.slice sa' sl'.length sc') (.slice wa' wl'.length wc') (.int .i64 left') (.int .i64 (steps' : Nat)) (.bool down')
  clear p0 p1 p2 p3 p4 p5 p6 q0 q1 q2 q3 q4 q5 q6 a0 a1 a2 a3 a4
  generalize (((((((w3.setCell ⟨w.heap.size, 0, none⟩ (.slice fa' fl'.length fc')).setCell ⟨w.heap.size, 1, none⟩ (.slice na' nl'.length nc')).setCell ⟨w.heap.size, 2, none⟩ (.slice sa' sl'.length sc')).setCell ⟨w.heap.size, 3, none⟩ (.slice wa' wl'.length wc')).setCell ⟨w.heap.size, 4, none⟩ (.int .i64 left')).setCell ⟨w.heap.size, 5, none⟩ (.int .i64 (steps' : Nat))).setCell ⟨w.heap.size, 6, none⟩ (.bool down')) = w4 at hbx hgx ⊢
  have HZ4 : Hid (RBox w4 (w.heap.size + 1 + 1) _ _ _ _ _ _ _) := ⟨grown_keep hgx HB3.out.rx (by simp; try omega)⟩
  have HR4 := Lib.hid (HR3.out.box HB3.out.bx hgx)
  have HFS4 := Lib.hid (HFS3.out.off HB3.out.bx (by decide) hgx)
  have HK4 := Lib.hid (HK3.out.own hgx (Nat.le_refl _))
  obtain ⟨⟨p0, p1, p2, p3, p4, p5, p6⟩, _⟩ := hbx.cells
  obtain ⟨⟨s0, s1, s2, s3, s4, s5, s6⟩, ⟨t0, t1, t2, t3, t4, t5, t6⟩⟩ := HZ4.out.cells
  clear hbx hgx
  go_wp2
  have HZG := Lib.hid (box_set HZ4.out (.slice fa' fl'.length fc') (.slice na' nl'.length nc') (.slice sa' sl'.length sc') (.slice wa' wl'.length wc') (.int .i64 left') (.int .i64 (steps' : Nat)) (.bool down'))
  clear s0 s1 s2 s3 s4 s5 s6 t0 t1 t2 t3 t4 t5 t6 p0 p1 p2 p3 p4 p5 p6
  generalize (((((((w4.setCell ⟨w.heap.size + 1 + 1, 0, none⟩ (.slice fa' fl'.length fc')).setCell ⟨w.heap.size + 1 + 1, 1, none⟩ (.slice na' nl'.length nc')).setCell ⟨w.heap.size + 1 + 1, 2, none⟩ (.slice sa' sl'.length sc')).setCell ⟨w.heap.size + 1 + 1, 3, none⟩ (.slice wa' wl'.length wc')).setCell ⟨w.heap.size + 1 + 1, 4, none⟩ (.int .i64 left')).setCell ⟨w.heap.size + 1 + 1, 5, none⟩ (.int .i64 (steps' : Nat))).setCell ⟨w.heap.size + 1 + 1, 6, none⟩ (.bool down')) = w5 at *
  obtain ⟨⟨s0, s1, s2, s3, s4, s5, s6⟩, _⟩ := HZG.out.1.cells
  exact bodyPost_ret (v := .tuple #[.agg #[.slice fa' fl'.length fc', .slice na' nl'.length nc', .slice sa' sl'.length sc', .slice wa' wl'.length wc', .int .i64 left', .int .i64 (steps' : Nat), .bool down'], .bool true]) (by simp [results, Try.results8, go_sem, s0, s1, s2, s3, s4, s5, s6]) rfl ⟨s', L', ⟨fl', nl', sl', wl', left', steps', down'⟩, ⟨fa', fc', na', nc', sa', sc', wa', wc'⟩, rfl, HFS4.out.off HZ4.out.at_ (by decide) HZG.out.2, HR4.out.box HZ4.out.at_ HZG.out.2, HREL4.out, HK4.out.own HZG.out.2 (by omega)⟩
set_option maxRecDepth 100000 in
set_option maxHeartbeats 2000000 in
theorem act_remove (h : Ready0 base w b s L r k) (R : RLay) (name dst : ByteArray) (an : Int) (ca : Option Addr) (cn cc : Nat) (hs : name.size ≤ 1000) (hs2 : dst.size ≤ 1000) (han : -9223372036854775808 ≤ an ∧ an ≤ 9223372036854775807) (hcn : cn ≤ 1000) (hcv : CutsV base w ca cn) (hat : RAt w r R) :
    Calls Try.prog 8 #[.pointer (some ⟨b, 0, none⟩), rval r R, .agg #[.int .u8 3, .string name, .string dst, .int .i64 an, .slice ca cn cc]] w (ActIs base w b k) := by
  have hf1 : Fresh w (((w.alloc (.cells #[.slice R.fa r.files.length R.fc, .slice R.na r.now.length R.nc, .slice R.sa r.safe.length R.sc, .slice R.wa r.wait.length R.wc, .int .i64 r.left, .int .i64 r.steps, .bool r.down] 31)).alloc (.cells #[.int .u8 3, .string name, .string dst, .int .i64 an, .slice ca cn cc] 34)).alloc (.cells #[.slice none 0 0, .slice none 0 0, .slice none 0 0, .slice none 0 0, .int .i64 0, .int .i64 0, .bool false] 31)) := (((Fresh.refl w).alloc _).alloc _).alloc _
  have h1 : Ready0 base (((w.alloc (.cells #[.slice R.fa r.files.length R.fc, .slice R.na r.now.length R.nc, .slice R.sa r.safe.length R.sc, .slice R.wa r.wait.length R.wc, .int .i64 r.left, .int .i64 r.steps, .bool r.down] 31)).alloc (.cells #[.int .u8 3, .string name, .string dst, .int .i64 an, .slice ca cn cc] 34)).alloc (.cells #[.slice none 0 0, .slice none 0 0, .slice none 0 0, .slice none 0 0, .int .i64 0, .int .i64 0, .bool false] 31)) b s L r k := ⟨h.fs.move hf1, h.rel, h.few⟩
  obtain ⟨c, P, Q, hc, hr, hm⟩ := remove_both h1 name hs
  have HC := Lib.hid hc
  have HR := Lib.hid hr
  have HM := Lib.hid hm
  clear hc hr hm
  have HAT := Lib.hid (hat.move hf1)
  have HB1 := Lib.hid (dbox_made w #[.slice R.fa r.files.length R.fc, .slice R.na r.now.length R.nc, .slice R.sa r.safe.length R.sc, .slice R.wa r.wait.length R.wc, .int .i64 r.left, .int .i64 r.steps, .bool r.down] #[.int .u8 3, .string name, .string dst, .int .i64 an, .slice ca cn cc] #[.slice none 0 0, .slice none 0 0, .slice none 0 0, .slice none 0 0, .int .i64 0, .int .i64 0, .bool false])
  have HK1 := Lib.hid (Kept.fresh' (base := base) hf1)
  have HFS1 := Lib.hid h1.fs
  have HREL := Lib.hid h.rel
  obtain ⟨fl, nl, sl, wl, left, steps, down⟩ := r
  obtain ⟨fa, fc, na, nc, sa, sc, wa, wc⟩ := R
  dsimp only [rval] at *
  have hsz1 : w.heap.size ≤ (((w.alloc (.cells #[.slice fa fl.length fc, .slice na nl.length nc, .slice sa sl.length sc, .slice wa wl.length wc, .int .i64 left, .int .i64 steps, .bool down] 31)).alloc (.cells #[.int .u8 3, .string name, .string dst, .int .i64 an, .slice ca cn cc] 34)).alloc (.cells #[.slice none 0 0, .slice none 0 0, .slice none 0 0, .slice none 0 0, .int .i64 0, .int .i64 0, .bool false] 31)).heap.size := hf1.size
  have HFR1 := Lib.hid hf1
  clear h h1 hat hf1
  go_enter Try.func8, Try.ntmps8
  go_wp2_with fail
  refine HC.out.mono ?_
  rintro e w2 ⟨rfl, ⟨s', L', hp, hfs⟩, hk2⟩
  have HB2 := Lib.hid (HB1.out.keeps hk2)
  have HFS2 := Lib.hid hfs
  have HAT2 := Lib.hid (HAT.out.keeps hk2)
  have HK2 := Lib.hid (HK1.out.trans hk2)
  have HP := Lib.hid hp
  clear hfs hk2 hp HC
  obtain ⟨⟨p0, p1, p2, p3, p4, p5, p6⟩, ⟨q0, q1, q2, q3, q4, q5, q6⟩⟩ := (RBox.mk HB2.out.bx).cells
  have a0 := cell_of_at HB2.out.ax (i := 0) rfl
  have a1 := cell_of_at HB2.out.ax (i := 1) rfl
  have a2 := cell_of_at HB2.out.ax (i := 2) rfl
  have a3 := cell_of_at HB2.out.ax (i := 3) rfl
  have a4 := cell_of_at HB2.out.ax (i := 4) rfl
  go_wp2_with fail
  refine (HR.out w2 _ HAT2.out).mono ?_
  rintro e w3 ⟨⟨fl', nl', sl', wl', left', steps', down'⟩, hq, ⟨fa', fc', na', nc', sa', sc', wa', wc'⟩, rfl, hr3, hf3⟩
  dsimp only [rval] at hr3 ⊢
  have HREL4 := Lib.hid (HM.out _ _ HP.out hq)
  clear hq
  have HB3 := Lib.hid (DBox.mk (hf3.at HB2.out.bx) (hf3.at HB2.out.ax) (hf3.at HB2.out.rx))
  have HR3 := Lib.hid hr3
  have HFS3 := Lib.hid (HFS2.out.move hf3)
  have HK3 := Lib.hid (HK2.out.fresh hf3)
  clear hf3 hr3
  clear p0 p1 p2 p3 p4 p5 p6 q0 q1 q2 q3 q4 q5 q6 a0 a1 a2 a3 a4
  obtain ⟨⟨p0, p1, p2, p3, p4, p5, p6⟩, ⟨q0, q1, q2, q3, q4, q5, q6⟩⟩ := (RBox.mk HB3.out.bx).cells
  have a0 := cell_of_at HB3.out.ax (i := 0) rfl
  have a1 := cell_of_at HB3.out.ax (i := 1) rfl
  have a2 := cell_of_at HB3.out.ax (i := 2) rfl
  have a3 := cell_of_at HB3.out.ax (i := 3) rfl
  have a4 := cell_of_at HB3.out.ax (i := 4) rfl
  go_upto_region 24 with (fail)
  obtain ⟨hbx, hgx⟩ := box_set (RBox.mk HB3.out.bx) (.slice fa' fl'.length fc') (.slice na' nl'.length nc') (.slice sa' sl'.length sc') (.slice wa' wl'.length wc') (.int .i64 left') (.int .i64 (steps' : Nat)) (.bool down')
  clear p0 p1 p2 p3 p4 p5 p6 q0 q1 q2 q3 q4 q5 q6 a0 a1 a2 a3 a4
  generalize (((((((w3.setCell ⟨w.heap.size, 0, none⟩ (.slice fa' fl'.length fc')).setCell ⟨w.heap.size, 1, none⟩ (.slice na' nl'.length nc')).setCell ⟨w.heap.size, 2, none⟩ (.slice sa' sl'.length sc')).setCell ⟨w.heap.size, 3, none⟩ (.slice wa' wl'.length wc')).setCell ⟨w.heap.size, 4, none⟩ (.int .i64 left')).setCell ⟨w.heap.size, 5, none⟩ (.int .i64 (steps' : Nat))).setCell ⟨w.heap.size, 6, none⟩ (.bool down')) = w4 at hbx hgx ⊢
  have HZ4 : Hid (RBox w4 (w.heap.size + 1 + 1) _ _ _ _ _ _ _) := ⟨grown_keep hgx HB3.out.rx (by simp; try omega)⟩
  have HR4 := Lib.hid (HR3.out.box HB3.out.bx hgx)
  have HFS4 := Lib.hid (HFS3.out.off HB3.out.bx (by decide) hgx)
  have HK4 := Lib.hid (HK3.out.own hgx (Nat.le_refl _))
  obtain ⟨⟨p0, p1, p2, p3, p4, p5, p6⟩, _⟩ := hbx.cells
  obtain ⟨⟨s0, s1, s2, s3, s4, s5, s6⟩, ⟨t0, t1, t2, t3, t4, t5, t6⟩⟩ := HZ4.out.cells
  clear hbx hgx
  go_wp2
  have HZG := Lib.hid (box_set HZ4.out (.slice fa' fl'.length fc') (.slice na' nl'.length nc') (.slice sa' sl'.length sc') (.slice wa' wl'.length wc') (.int .i64 left') (.int .i64 (steps' : Nat)) (.bool down'))
  clear s0 s1 s2 s3 s4 s5 s6 t0 t1 t2 t3 t4 t5 t6 p0 p1 p2 p3 p4 p5 p6
  generalize (((((((w4.setCell ⟨w.heap.size + 1 + 1, 0, none⟩ (.slice fa' fl'.length fc')).setCell ⟨w.heap.size + 1 + 1, 1, none⟩ (.slice na' nl'.length nc')).setCell ⟨w.heap.size + 1 + 1, 2, none⟩ (.slice sa' sl'.length sc')).setCell ⟨w.heap.size + 1 + 1, 3, none⟩ (.slice wa' wl'.length wc')).setCell ⟨w.heap.size + 1 + 1, 4, none⟩ (.int .i64 left')).setCell ⟨w.heap.size + 1 + 1, 5, none⟩ (.int .i64 (steps' : Nat))).setCell ⟨w.heap.size + 1 + 1, 6, none⟩ (.bool down')) = w5 at *
  obtain ⟨⟨s0, s1, s2, s3, s4, s5, s6⟩, _⟩ := HZG.out.1.cells
  exact bodyPost_ret (v := .tuple #[.agg #[.slice fa' fl'.length fc', .slice na' nl'.length nc', .slice sa' sl'.length sc', .slice wa' wl'.length wc', .int .i64 left', .int .i64 (steps' : Nat), .bool down'], .bool true]) (by simp [results, Try.results8, go_sem, s0, s1, s2, s3, s4, s5, s6]) rfl ⟨s', L', ⟨fl', nl', sl', wl', left', steps', down'⟩, ⟨fa', fc', na', nc', sa', sc', wa', wc'⟩, rfl, HFS4.out.off HZ4.out.at_ (by decide) HZG.out.2, HR4.out.box HZ4.out.at_ HZG.out.2, HREL4.out, HK4.out.own HZG.out.2 (by omega)⟩
set_option maxRecDepth 100000 in
set_option maxHeartbeats 2000000 in
theorem act_syncdir (h : Ready0 base w b s L r k) (R : RLay) (name dst : ByteArray) (an : Int) (ca : Option Addr) (cn cc : Nat) (hs : name.size ≤ 1000) (hs2 : dst.size ≤ 1000) (han : -9223372036854775808 ≤ an ∧ an ≤ 9223372036854775807) (hcn : cn ≤ 1000) (hcv : CutsV base w ca cn) (hat : RAt w r R) :
    Calls Try.prog 8 #[.pointer (some ⟨b, 0, none⟩), rval r R, .agg #[.int .u8 4, .string name, .string dst, .int .i64 an, .slice ca cn cc]] w (ActIs base w b k) := by
  have hf1 : Fresh w (((w.alloc (.cells #[.slice R.fa r.files.length R.fc, .slice R.na r.now.length R.nc, .slice R.sa r.safe.length R.sc, .slice R.wa r.wait.length R.wc, .int .i64 r.left, .int .i64 r.steps, .bool r.down] 31)).alloc (.cells #[.int .u8 4, .string name, .string dst, .int .i64 an, .slice ca cn cc] 34)).alloc (.cells #[.slice none 0 0, .slice none 0 0, .slice none 0 0, .slice none 0 0, .int .i64 0, .int .i64 0, .bool false] 31)) := (((Fresh.refl w).alloc _).alloc _).alloc _
  have h1 : Ready0 base (((w.alloc (.cells #[.slice R.fa r.files.length R.fc, .slice R.na r.now.length R.nc, .slice R.sa r.safe.length R.sc, .slice R.wa r.wait.length R.wc, .int .i64 r.left, .int .i64 r.steps, .bool r.down] 31)).alloc (.cells #[.int .u8 4, .string name, .string dst, .int .i64 an, .slice ca cn cc] 34)).alloc (.cells #[.slice none 0 0, .slice none 0 0, .slice none 0 0, .slice none 0 0, .int .i64 0, .int .i64 0, .bool false] 31)) b s L r k := ⟨h.fs.move hf1, h.rel, h.few⟩
  obtain ⟨c, P, Q, hc, hr, hm⟩ := syncdir_both h1 
  have HC := Lib.hid hc
  have HR := Lib.hid hr
  have HM := Lib.hid hm
  clear hc hr hm
  have HAT := Lib.hid (hat.move hf1)
  have HB1 := Lib.hid (dbox_made w #[.slice R.fa r.files.length R.fc, .slice R.na r.now.length R.nc, .slice R.sa r.safe.length R.sc, .slice R.wa r.wait.length R.wc, .int .i64 r.left, .int .i64 r.steps, .bool r.down] #[.int .u8 4, .string name, .string dst, .int .i64 an, .slice ca cn cc] #[.slice none 0 0, .slice none 0 0, .slice none 0 0, .slice none 0 0, .int .i64 0, .int .i64 0, .bool false])
  have HK1 := Lib.hid (Kept.fresh' (base := base) hf1)
  have HFS1 := Lib.hid h1.fs
  have HREL := Lib.hid h.rel
  obtain ⟨fl, nl, sl, wl, left, steps, down⟩ := r
  obtain ⟨fa, fc, na, nc, sa, sc, wa, wc⟩ := R
  dsimp only [rval] at *
  have hsz1 : w.heap.size ≤ (((w.alloc (.cells #[.slice fa fl.length fc, .slice na nl.length nc, .slice sa sl.length sc, .slice wa wl.length wc, .int .i64 left, .int .i64 steps, .bool down] 31)).alloc (.cells #[.int .u8 4, .string name, .string dst, .int .i64 an, .slice ca cn cc] 34)).alloc (.cells #[.slice none 0 0, .slice none 0 0, .slice none 0 0, .slice none 0 0, .int .i64 0, .int .i64 0, .bool false] 31)).heap.size := hf1.size
  have HFR1 := Lib.hid hf1
  clear h h1 hat hf1
  go_enter Try.func8, Try.ntmps8
  go_wp2_with fail
  refine HC.out.mono ?_
  rintro e w2 ⟨rfl, ⟨s', L', hp, hfs⟩, hk2⟩
  have HB2 := Lib.hid (HB1.out.keeps hk2)
  have HFS2 := Lib.hid hfs
  have HAT2 := Lib.hid (HAT.out.keeps hk2)
  have HK2 := Lib.hid (HK1.out.trans hk2)
  have HP := Lib.hid hp
  clear hfs hk2 hp HC
  obtain ⟨⟨p0, p1, p2, p3, p4, p5, p6⟩, ⟨q0, q1, q2, q3, q4, q5, q6⟩⟩ := (RBox.mk HB2.out.bx).cells
  have a0 := cell_of_at HB2.out.ax (i := 0) rfl
  have a1 := cell_of_at HB2.out.ax (i := 1) rfl
  have a2 := cell_of_at HB2.out.ax (i := 2) rfl
  have a3 := cell_of_at HB2.out.ax (i := 3) rfl
  have a4 := cell_of_at HB2.out.ax (i := 4) rfl
  go_wp2_with fail
  refine (HR.out w2 _ HAT2.out).mono ?_
  rintro e w3 ⟨⟨fl', nl', sl', wl', left', steps', down'⟩, hq, ⟨fa', fc', na', nc', sa', sc', wa', wc'⟩, rfl, hr3, hf3⟩
  dsimp only [rval] at hr3 ⊢
  have HREL4 := Lib.hid (HM.out _ _ HP.out hq)
  clear hq
  have HB3 := Lib.hid (DBox.mk (hf3.at HB2.out.bx) (hf3.at HB2.out.ax) (hf3.at HB2.out.rx))
  have HR3 := Lib.hid hr3
  have HFS3 := Lib.hid (HFS2.out.move hf3)
  have HK3 := Lib.hid (HK2.out.fresh hf3)
  clear hf3 hr3
  clear p0 p1 p2 p3 p4 p5 p6 q0 q1 q2 q3 q4 q5 q6 a0 a1 a2 a3 a4
  obtain ⟨⟨p0, p1, p2, p3, p4, p5, p6⟩, ⟨q0, q1, q2, q3, q4, q5, q6⟩⟩ := (RBox.mk HB3.out.bx).cells
  have a0 := cell_of_at HB3.out.ax (i := 0) rfl
  have a1 := cell_of_at HB3.out.ax (i := 1) rfl
  have a2 := cell_of_at HB3.out.ax (i := 2) rfl
  have a3 := cell_of_at HB3.out.ax (i := 3) rfl
  have a4 := cell_of_at HB3.out.ax (i := 4) rfl
  go_upto_region 24 with (fail)
  obtain ⟨hbx, hgx⟩ := box_set (RBox.mk HB3.out.bx) (.slice fa' fl'.length fc') (.slice na' nl'.length nc') (.slice sa' sl'.length sc') (.slice wa' wl'.length wc') (.int .i64 left') (.int .i64 (steps' : Nat)) (.bool down')
  clear p0 p1 p2 p3 p4 p5 p6 q0 q1 q2 q3 q4 q5 q6 a0 a1 a2 a3 a4
  generalize (((((((w3.setCell ⟨w.heap.size, 0, none⟩ (.slice fa' fl'.length fc')).setCell ⟨w.heap.size, 1, none⟩ (.slice na' nl'.length nc')).setCell ⟨w.heap.size, 2, none⟩ (.slice sa' sl'.length sc')).setCell ⟨w.heap.size, 3, none⟩ (.slice wa' wl'.length wc')).setCell ⟨w.heap.size, 4, none⟩ (.int .i64 left')).setCell ⟨w.heap.size, 5, none⟩ (.int .i64 (steps' : Nat))).setCell ⟨w.heap.size, 6, none⟩ (.bool down')) = w4 at hbx hgx ⊢
  have HZ4 : Hid (RBox w4 (w.heap.size + 1 + 1) _ _ _ _ _ _ _) := ⟨grown_keep hgx HB3.out.rx (by simp; try omega)⟩
  have HR4 := Lib.hid (HR3.out.box HB3.out.bx hgx)
  have HFS4 := Lib.hid (HFS3.out.off HB3.out.bx (by decide) hgx)
  have HK4 := Lib.hid (HK3.out.own hgx (Nat.le_refl _))
  obtain ⟨⟨p0, p1, p2, p3, p4, p5, p6⟩, _⟩ := hbx.cells
  obtain ⟨⟨s0, s1, s2, s3, s4, s5, s6⟩, ⟨t0, t1, t2, t3, t4, t5, t6⟩⟩ := HZ4.out.cells
  clear hbx hgx
  go_wp2
  have HZG := Lib.hid (box_set HZ4.out (.slice fa' fl'.length fc') (.slice na' nl'.length nc') (.slice sa' sl'.length sc') (.slice wa' wl'.length wc') (.int .i64 left') (.int .i64 (steps' : Nat)) (.bool down'))
  clear s0 s1 s2 s3 s4 s5 s6 t0 t1 t2 t3 t4 t5 t6 p0 p1 p2 p3 p4 p5 p6
  generalize (((((((w4.setCell ⟨w.heap.size + 1 + 1, 0, none⟩ (.slice fa' fl'.length fc')).setCell ⟨w.heap.size + 1 + 1, 1, none⟩ (.slice na' nl'.length nc')).setCell ⟨w.heap.size + 1 + 1, 2, none⟩ (.slice sa' sl'.length sc')).setCell ⟨w.heap.size + 1 + 1, 3, none⟩ (.slice wa' wl'.length wc')).setCell ⟨w.heap.size + 1 + 1, 4, none⟩ (.int .i64 left')).setCell ⟨w.heap.size + 1 + 1, 5, none⟩ (.int .i64 (steps' : Nat))).setCell ⟨w.heap.size + 1 + 1, 6, none⟩ (.bool down')) = w5 at *
  obtain ⟨⟨s0, s1, s2, s3, s4, s5, s6⟩, _⟩ := HZG.out.1.cells
  exact bodyPost_ret (v := .tuple #[.agg #[.slice fa' fl'.length fc', .slice na' nl'.length nc', .slice sa' sl'.length sc', .slice wa' wl'.length wc', .int .i64 left', .int .i64 (steps' : Nat), .bool down'], .bool true]) (by simp [results, Try.results8, go_sem, s0, s1, s2, s3, s4, s5, s6]) rfl ⟨s', L', ⟨fl', nl', sl', wl', left', steps', down'⟩, ⟨fa', fc', na', nc', sa', sc', wa', wc'⟩, rfl, HFS4.out.off HZ4.out.at_ (by decide) HZG.out.2, HR4.out.box HZ4.out.at_ HZG.out.2, HREL4.out, HK4.out.own HZG.out.2 (by omega)⟩
set_option maxRecDepth 100000 in
set_option maxHeartbeats 2000000 in
theorem act_arm (h : Ready0 base w b s L r k) (R : RLay) (name dst : ByteArray) (an : Int) (ca : Option Addr) (cn cc : Nat) (hs : name.size ≤ 1000) (hs2 : dst.size ≤ 1000) (han : -9223372036854775808 ≤ an ∧ an ≤ 9223372036854775807) (hcn : cn ≤ 1000) (hcv : CutsV base w ca cn) (hat : RAt w r R) :
    Calls Try.prog 8 #[.pointer (some ⟨b, 0, none⟩), rval r R, .agg #[.int .u8 5, .string name, .string dst, .int .i64 an, .slice ca cn cc]] w (ActIs base w b k) := by
  have hf1 : Fresh w (((w.alloc (.cells #[.slice R.fa r.files.length R.fc, .slice R.na r.now.length R.nc, .slice R.sa r.safe.length R.sc, .slice R.wa r.wait.length R.wc, .int .i64 r.left, .int .i64 r.steps, .bool r.down] 31)).alloc (.cells #[.int .u8 5, .string name, .string dst, .int .i64 an, .slice ca cn cc] 34)).alloc (.cells #[.slice none 0 0, .slice none 0 0, .slice none 0 0, .slice none 0 0, .int .i64 0, .int .i64 0, .bool false] 31)) := (((Fresh.refl w).alloc _).alloc _).alloc _
  have h1 : Ready0 base (((w.alloc (.cells #[.slice R.fa r.files.length R.fc, .slice R.na r.now.length R.nc, .slice R.sa r.safe.length R.sc, .slice R.wa r.wait.length R.wc, .int .i64 r.left, .int .i64 r.steps, .bool r.down] 31)).alloc (.cells #[.int .u8 5, .string name, .string dst, .int .i64 an, .slice ca cn cc] 34)).alloc (.cells #[.slice none 0 0, .slice none 0 0, .slice none 0 0, .slice none 0 0, .int .i64 0, .int .i64 0, .bool false] 31)) b s L r k := ⟨h.fs.move hf1, h.rel, h.few⟩
  have HC := Lib.hid (arm_any h1.fs an han.2)
  have HREL4 := Lib.hid (h.rel.armed an)
  have HR := Lib.hid (fun W R => rarm_any r R W an)
  have HAT := Lib.hid (hat.move hf1)
  have HB1 := Lib.hid (dbox_made w #[.slice R.fa r.files.length R.fc, .slice R.na r.now.length R.nc, .slice R.sa r.safe.length R.sc, .slice R.wa r.wait.length R.wc, .int .i64 r.left, .int .i64 r.steps, .bool r.down] #[.int .u8 5, .string name, .string dst, .int .i64 an, .slice ca cn cc] #[.slice none 0 0, .slice none 0 0, .slice none 0 0, .slice none 0 0, .int .i64 0, .int .i64 0, .bool false])
  have HK1 := Lib.hid (Kept.fresh' (base := base) hf1)
  have HFS1 := Lib.hid h1.fs
  have HREL := Lib.hid h.rel
  obtain ⟨fl, nl, sl, wl, left, steps, down⟩ := r
  obtain ⟨fa, fc, na, nc, sa, sc, wa, wc⟩ := R
  dsimp only [rval] at *
  have hsz1 : w.heap.size ≤ (((w.alloc (.cells #[.slice fa fl.length fc, .slice na nl.length nc, .slice sa sl.length sc, .slice wa wl.length wc, .int .i64 left, .int .i64 steps, .bool down] 31)).alloc (.cells #[.int .u8 5, .string name, .string dst, .int .i64 an, .slice ca cn cc] 34)).alloc (.cells #[.slice none 0 0, .slice none 0 0, .slice none 0 0, .slice none 0 0, .int .i64 0, .int .i64 0, .bool false] 31)).heap.size := hf1.size
  have HFR1 := Lib.hid hf1
  clear h h1 hat hf1
  go_enter Try.func8, Try.ntmps8
  dsimp only [RSt.count] at HREL4 HR
  go_wp2_with fail
  refine HC.out.mono ?_
  rintro e w2 ⟨rfl, hfs, hk2, _⟩
  have HB2 := Lib.hid (HB1.out.keeps hk2)
  have HFS2 := Lib.hid hfs
  have HAT2 := Lib.hid (HAT.out.keeps hk2)
  have HK2 := Lib.hid (HK1.out.trans hk2)
  clear hfs hk2 HC
  obtain ⟨⟨p0, p1, p2, p3, p4, p5, p6⟩, ⟨q0, q1, q2, q3, q4, q5, q6⟩⟩ := (RBox.mk HB2.out.bx).cells
  have a0 := cell_of_at HB2.out.ax (i := 0) rfl
  have a1 := cell_of_at HB2.out.ax (i := 1) rfl
  have a2 := cell_of_at HB2.out.ax (i := 2) rfl
  have a3 := cell_of_at HB2.out.ax (i := 3) rfl
  have a4 := cell_of_at HB2.out.ax (i := 4) rfl
  go_wp2_with fail
  refine (HR.out w2 ⟨fa, fc, na, nc, sa, sc, wa, wc⟩).mono ?_
  rintro e w3 ⟨rfl, hf3⟩
  have hr3 : RAt w3 ⟨fl, nl, sl, wl, max an (-1), steps, down⟩ ⟨fa, fc, na, nc, sa, sc, wa, wc⟩ := (HAT2.out.move hf3).count steps (max an (-1)) down
  dsimp only [rval] at hr3 ⊢
  have HB3 := Lib.hid (DBox.mk (hf3.at HB2.out.bx) (hf3.at HB2.out.ax) (hf3.at HB2.out.rx))
  have HR3 := Lib.hid hr3
  have HFS3 := Lib.hid (HFS2.out.move hf3)
  have HK3 := Lib.hid (HK2.out.fresh hf3)
  clear hf3 hr3
  clear p0 p1 p2 p3 p4 p5 p6 q0 q1 q2 q3 q4 q5 q6 a0 a1 a2 a3 a4
  obtain ⟨⟨p0, p1, p2, p3, p4, p5, p6⟩, ⟨q0, q1, q2, q3, q4, q5, q6⟩⟩ := (RBox.mk HB3.out.bx).cells
  have a0 := cell_of_at HB3.out.ax (i := 0) rfl
  have a1 := cell_of_at HB3.out.ax (i := 1) rfl
  have a2 := cell_of_at HB3.out.ax (i := 2) rfl
  have a3 := cell_of_at HB3.out.ax (i := 3) rfl
  have a4 := cell_of_at HB3.out.ax (i := 4) rfl
  go_upto_region 24 with (fail)
  obtain ⟨hbx, hgx⟩ := box_set (RBox.mk HB3.out.bx) (.slice fa fl.length fc) (.slice na nl.length nc) (.slice sa sl.length sc) (.slice wa wl.length wc) (.int .i64 (max an (-1))) (.int .i64 (steps : Nat)) (.bool down)
  clear p0 p1 p2 p3 p4 p5 p6 q0 q1 q2 q3 q4 q5 q6 a0 a1 a2 a3 a4
  generalize (((((((w3.setCell ⟨w.heap.size, 0, none⟩ (.slice fa fl.length fc)).setCell ⟨w.heap.size, 1, none⟩ (.slice na nl.length nc)).setCell ⟨w.heap.size, 2, none⟩ (.slice sa sl.length sc)).setCell ⟨w.heap.size, 3, none⟩ (.slice wa wl.length wc)).setCell ⟨w.heap.size, 4, none⟩ (.int .i64 (max an (-1)))).setCell ⟨w.heap.size, 5, none⟩ (.int .i64 (steps : Nat))).setCell ⟨w.heap.size, 6, none⟩ (.bool down)) = w4 at hbx hgx ⊢
  have HZ4 : Hid (RBox w4 (w.heap.size + 1 + 1) _ _ _ _ _ _ _) := ⟨grown_keep hgx HB3.out.rx (by simp; try omega)⟩
  have HR4 := Lib.hid (HR3.out.box HB3.out.bx hgx)
  have HFS4 := Lib.hid (HFS3.out.off HB3.out.bx (by decide) hgx)
  have HK4 := Lib.hid (HK3.out.own hgx (Nat.le_refl _))
  obtain ⟨⟨p0, p1, p2, p3, p4, p5, p6⟩, _⟩ := hbx.cells
  obtain ⟨⟨s0, s1, s2, s3, s4, s5, s6⟩, ⟨t0, t1, t2, t3, t4, t5, t6⟩⟩ := HZ4.out.cells
  clear hbx hgx
  go_wp2
  have HZG := Lib.hid (box_set HZ4.out (.slice fa fl.length fc) (.slice na nl.length nc) (.slice sa sl.length sc) (.slice wa wl.length wc) (.int .i64 (max an (-1))) (.int .i64 (steps : Nat)) (.bool down))
  clear s0 s1 s2 s3 s4 s5 s6 t0 t1 t2 t3 t4 t5 t6 p0 p1 p2 p3 p4 p5 p6
  generalize (((((((w4.setCell ⟨w.heap.size + 1 + 1, 0, none⟩ (.slice fa fl.length fc)).setCell ⟨w.heap.size + 1 + 1, 1, none⟩ (.slice na nl.length nc)).setCell ⟨w.heap.size + 1 + 1, 2, none⟩ (.slice sa sl.length sc)).setCell ⟨w.heap.size + 1 + 1, 3, none⟩ (.slice wa wl.length wc)).setCell ⟨w.heap.size + 1 + 1, 4, none⟩ (.int .i64 (max an (-1)))).setCell ⟨w.heap.size + 1 + 1, 5, none⟩ (.int .i64 (steps : Nat))).setCell ⟨w.heap.size + 1 + 1, 6, none⟩ (.bool down)) = w5 at *
  obtain ⟨⟨s0, s1, s2, s3, s4, s5, s6⟩, _⟩ := HZG.out.1.cells
  exact bodyPost_ret (v := .tuple #[.agg #[.slice fa fl.length fc, .slice na nl.length nc, .slice sa sl.length sc, .slice wa wl.length wc, .int .i64 (max an (-1)), .int .i64 (steps : Nat), .bool down], .bool true]) (by simp [results, Try.results8, go_sem, s0, s1, s2, s3, s4, s5, s6]) rfl ⟨_, _, ⟨fl, nl, sl, wl, max an (-1), steps, down⟩, ⟨fa, fc, na, nc, sa, sc, wa, wc⟩, rfl, HFS4.out.off HZ4.out.at_ (by decide) HZG.out.2, HR4.out.box HZ4.out.at_ HZG.out.2, HREL4.out, HK4.out.own HZG.out.2 (by omega)⟩
set_option maxRecDepth 100000 in
set_option maxHeartbeats 2000000 in
theorem act_crash (h : Ready0 base w b s L r k) (R : RLay) (name dst : ByteArray) (an : Int) (ca : Option Addr) (cn cc : Nat) (hs : name.size ≤ 1000) (hs2 : dst.size ≤ 1000) (han : -9223372036854775808 ≤ an ∧ an ≤ 9223372036854775807) (hcn : cn ≤ 1000) (hcv : CutsV base w ca cn) (hat : RAt w r R) :
    Calls Try.prog 8 #[.pointer (some ⟨b, 0, none⟩), rval r R, .agg #[.int .u8 6, .string name, .string dst, .int .i64 an, .slice ca cn cc]] w (ActIs base w b k) := by
  have hf1 : Fresh w (((w.alloc (.cells #[.slice R.fa r.files.length R.fc, .slice R.na r.now.length R.nc, .slice R.sa r.safe.length R.sc, .slice R.wa r.wait.length R.wc, .int .i64 r.left, .int .i64 r.steps, .bool r.down] 31)).alloc (.cells #[.int .u8 6, .string name, .string dst, .int .i64 an, .slice ca cn cc] 34)).alloc (.cells #[.slice none 0 0, .slice none 0 0, .slice none 0 0, .slice none 0 0, .int .i64 0, .int .i64 0, .bool false] 31)) := (((Fresh.refl w).alloc _).alloc _).alloc _
  have h1 : Ready0 base (((w.alloc (.cells #[.slice R.fa r.files.length R.fc, .slice R.na r.now.length R.nc, .slice R.sa r.safe.length R.sc, .slice R.wa r.wait.length R.wc, .int .i64 r.left, .int .i64 r.steps, .bool r.down] 31)).alloc (.cells #[.int .u8 6, .string name, .string dst, .int .i64 an, .slice ca cn cc] 34)).alloc (.cells #[.slice none 0 0, .slice none 0 0, .slice none 0 0, .slice none 0 0, .int .i64 0, .int .i64 0, .bool false] 31)) b s L r k := ⟨h.fs.move hf1, h.rel, h.few⟩
  obtain ⟨n, hn⟩ : ∃ n : Nat, min (max an 0) (s.wait.length : Int) = n := ⟨(min (max an 0) (s.wait.length : Int)).toNat, by omega⟩
  obtain ⟨l1, l2, l3, l4, l5, l6⟩ := h.low
  have hcv1 := hcv.kept (Kept.fresh' (base := base) hf1) h.fs.low
  have HC := Lib.hid (crash_of h1.fs (by omega) an (.slice ca cn cc) (tear_of h1.fs (by omega) hcv1 hcn) n hn)
  have hwl := h.rel.wait.len
  have HREL4 := Lib.hid (fun fl' (hfl : fl'.length = r.files.length) => h.rel.crashed fl' hfl n)
  have HBASE := Lib.hid h1.fs.low
  have HCV := Lib.hid hcv1
  have HCN := Lib.hid hcn
  have HR := Lib.hid (fun (W : World) R (hat : RAt W r R) (hcv : CutsIs W (.slice ca cn cc) cn) => rcrash_any r R an (.slice ca cn cc) cn n W (by omega) (by omega) (by omega) han (by rw [← hwl]; exact hn) h.rel.wait.kinds hat hcv)
  clear hn l1 l2 l3 l4 l5 l6 hwl hcv hcv1 hcn
  have HAT := Lib.hid (hat.move hf1)
  have HB1 := Lib.hid (dbox_made w #[.slice R.fa r.files.length R.fc, .slice R.na r.now.length R.nc, .slice R.sa r.safe.length R.sc, .slice R.wa r.wait.length R.wc, .int .i64 r.left, .int .i64 r.steps, .bool r.down] #[.int .u8 6, .string name, .string dst, .int .i64 an, .slice ca cn cc] #[.slice none 0 0, .slice none 0 0, .slice none 0 0, .slice none 0 0, .int .i64 0, .int .i64 0, .bool false])
  have HK1 := Lib.hid (Kept.fresh' (base := base) hf1)
  have HFS1 := Lib.hid h1.fs
  have HREL := Lib.hid h.rel
  obtain ⟨fl, nl, sl, wl, left, steps, down⟩ := r
  obtain ⟨fa, fc, na, nc, sa, sc, wa, wc⟩ := R
  dsimp only [rval] at *
  have hsz1 : w.heap.size ≤ (((w.alloc (.cells #[.slice fa fl.length fc, .slice na nl.length nc, .slice sa sl.length sc, .slice wa wl.length wc, .int .i64 left, .int .i64 steps, .bool down] 31)).alloc (.cells #[.int .u8 6, .string name, .string dst, .int .i64 an, .slice ca cn cc] 34)).alloc (.cells #[.slice none 0 0, .slice none 0 0, .slice none 0 0, .slice none 0 0, .int .i64 0, .int .i64 0, .bool false] 31)).heap.size := hf1.size
  have HFR1 := Lib.hid hf1
  clear h h1 hat hf1
  go_enter Try.func8, Try.ntmps8
  go_wp2_with fail
  refine HC.out.mono ?_
  rintro e w2 ⟨rfl, ⟨L', hfs⟩, hk2, _⟩
  have HB2 := Lib.hid (HB1.out.keeps hk2)
  have HFS2 := Lib.hid hfs
  have HAT2 := Lib.hid (HAT.out.keeps hk2)
  have HK2 := Lib.hid (HK1.out.trans hk2)
  have HCV2 := Lib.hid ((HCV.out.kept hk2 HBASE.out).is (c := cc) HCN.out)
  clear hfs hk2 HC
  obtain ⟨⟨p0, p1, p2, p3, p4, p5, p6⟩, ⟨q0, q1, q2, q3, q4, q5, q6⟩⟩ := (RBox.mk HB2.out.bx).cells
  have a0 := cell_of_at HB2.out.ax (i := 0) rfl
  have a1 := cell_of_at HB2.out.ax (i := 1) rfl
  have a2 := cell_of_at HB2.out.ax (i := 2) rfl
  have a3 := cell_of_at HB2.out.ax (i := 3) rfl
  have a4 := cell_of_at HB2.out.ax (i := 4) rfl
  go_wp2_with fail
  refine (HR.out w2 ⟨fa, fc, na, nc, sa, sc, wa, wc⟩ HAT2.out HCV2.out).mono ?_
  rintro e w3 ⟨fl', ⟨fa', fc', na', nc', sa', sc', wa', wc'⟩, hfl', rfl, hr3, hf3⟩
  have HREL5 := Lib.hid (HREL4.out fl' hfl')
  dsimp only [rval, RSt.crash] at hr3 HREL5 ⊢
  clear hfl' HREL4
  generalize onAllL sl (wl.take n) = S' at *
  have HB3 := Lib.hid (DBox.mk (hf3.at HB2.out.bx) (hf3.at HB2.out.ax) (hf3.at HB2.out.rx))
  have HR3 := Lib.hid hr3
  have HFS3 := Lib.hid (HFS2.out.move hf3)
  have HK3 := Lib.hid (HK2.out.fresh hf3)
  clear hf3 hr3
  clear p0 p1 p2 p3 p4 p5 p6 q0 q1 q2 q3 q4 q5 q6 a0 a1 a2 a3 a4
  obtain ⟨⟨p0, p1, p2, p3, p4, p5, p6⟩, ⟨q0, q1, q2, q3, q4, q5, q6⟩⟩ := (RBox.mk HB3.out.bx).cells
  have a0 := cell_of_at HB3.out.ax (i := 0) rfl
  have a1 := cell_of_at HB3.out.ax (i := 1) rfl
  have a2 := cell_of_at HB3.out.ax (i := 2) rfl
  have a3 := cell_of_at HB3.out.ax (i := 3) rfl
  have a4 := cell_of_at HB3.out.ax (i := 4) rfl
  go_upto_region 24 with (fail)
  obtain ⟨hbx, hgx⟩ := box_set (RBox.mk HB3.out.bx) (.slice fa' fl'.length fc') (.slice na' S'.length nc') (.slice sa' S'.length sc') (.slice wa' 0 wc') (.int .i64 (-1)) (.int .i64 (steps : Nat)) (.bool false)
  clear p0 p1 p2 p3 p4 p5 p6 q0 q1 q2 q3 q4 q5 q6 a0 a1 a2 a3 a4
  generalize (((((((w3.setCell ⟨w.heap.size, 0, none⟩ (.slice fa' fl'.length fc')).setCell ⟨w.heap.size, 1, none⟩ (.slice na' S'.length nc')).setCell ⟨w.heap.size, 2, none⟩ (.slice sa' S'.length sc')).setCell ⟨w.heap.size, 3, none⟩ (.slice wa' 0 wc')).setCell ⟨w.heap.size, 4, none⟩ (.int .i64 (-1))).setCell ⟨w.heap.size, 5, none⟩ (.int .i64 (steps : Nat))).setCell ⟨w.heap.size, 6, none⟩ (.bool false)) = w4 at hbx hgx ⊢
  have HZ4 : Hid (RBox w4 (w.heap.size + 1 + 1) _ _ _ _ _ _ _) := ⟨grown_keep hgx HB3.out.rx (by simp; try omega)⟩
  have HR4 := Lib.hid (HR3.out.box HB3.out.bx hgx)
  have HFS4 := Lib.hid (HFS3.out.off HB3.out.bx (by decide) hgx)
  have HK4 := Lib.hid (HK3.out.own hgx (Nat.le_refl _))
  obtain ⟨⟨p0, p1, p2, p3, p4, p5, p6⟩, _⟩ := hbx.cells
  obtain ⟨⟨s0, s1, s2, s3, s4, s5, s6⟩, ⟨t0, t1, t2, t3, t4, t5, t6⟩⟩ := HZ4.out.cells
  clear hbx hgx
  go_wp2
  have HZG := Lib.hid (box_set HZ4.out (.slice fa' fl'.length fc') (.slice na' S'.length nc') (.slice sa' S'.length sc') (.slice wa' 0 wc') (.int .i64 (-1)) (.int .i64 (steps : Nat)) (.bool false))
  clear s0 s1 s2 s3 s4 s5 s6 t0 t1 t2 t3 t4 t5 t6 p0 p1 p2 p3 p4 p5 p6
  generalize (((((((w4.setCell ⟨w.heap.size + 1 + 1, 0, none⟩ (.slice fa' fl'.length fc')).setCell ⟨w.heap.size + 1 + 1, 1, none⟩ (.slice na' S'.length nc')).setCell ⟨w.heap.size + 1 + 1, 2, none⟩ (.slice sa' S'.length sc')).setCell ⟨w.heap.size + 1 + 1, 3, none⟩ (.slice wa' 0 wc')).setCell ⟨w.heap.size + 1 + 1, 4, none⟩ (.int .i64 (-1))).setCell ⟨w.heap.size + 1 + 1, 5, none⟩ (.int .i64 (steps : Nat))).setCell ⟨w.heap.size + 1 + 1, 6, none⟩ (.bool false)) = w5 at *
  obtain ⟨⟨s0, s1, s2, s3, s4, s5, s6⟩, _⟩ := HZG.out.1.cells
  exact bodyPost_ret (v := .tuple #[.agg #[.slice fa' fl'.length fc', .slice na' S'.length nc', .slice sa' S'.length sc', .slice wa' 0 wc', .int .i64 (-1), .int .i64 (steps : Nat), .bool false], .bool true]) (by simp [results, Try.results8, go_sem, s0, s1, s2, s3, s4, s5, s6]) rfl ⟨_, _, ⟨fl', S', S', [], -1, steps, false⟩, ⟨fa', fc', na', nc', sa', sc', wa', wc'⟩, rfl, HFS4.out.off HZ4.out.at_ (by decide) HZG.out.2, HR4.out.box HZ4.out.at_ HZG.out.2, HREL5.out, HK4.out.own HZG.out.2 (by omega)⟩
set_option maxRecDepth 100000 in
set_option maxHeartbeats 2000000 in
theorem act_other (h : Ready0 base w b s L r k) (R : RLay) (kd : Int) (n0 : kd ≠ 0) (n1 : kd ≠ 1) (n2 : kd ≠ 2) (n3 : kd ≠ 3) (n4 : kd ≠ 4) (n5 : kd ≠ 5) (n6 : kd ≠ 6) (name dst : ByteArray) (an : Int) (ca : Option Addr) (cn cc : Nat) (hs : name.size ≤ 1000) (hs2 : dst.size ≤ 1000) (han : -9223372036854775808 ≤ an ∧ an ≤ 9223372036854775807) (hcn : cn ≤ 1000) (hcv : CutsV base w ca cn) (hat : RAt w r R) :
    Calls Try.prog 8 #[.pointer (some ⟨b, 0, none⟩), rval r R, .agg #[.int .u8 kd, .string name, .string dst, .int .i64 an, .slice ca cn cc]] w (ActIs base w b k) := by
  have e0 : (kd == 0) = false := by simpa using n0
  have e1 : (kd == 1) = false := by simpa using n1
  have e2 : (kd == 2) = false := by simpa using n2
  have e3 : (kd == 3) = false := by simpa using n3
  have e4 : (kd == 4) = false := by simpa using n4
  have e5 : (kd == 5) = false := by simpa using n5
  have e6 : (kd == 6) = false := by simpa using n6
  clear n0 n1 n2 n3 n4 n5 n6
  have hf1 : Fresh w (((w.alloc (.cells #[.slice R.fa r.files.length R.fc, .slice R.na r.now.length R.nc, .slice R.sa r.safe.length R.sc, .slice R.wa r.wait.length R.wc, .int .i64 r.left, .int .i64 r.steps, .bool r.down] 31)).alloc (.cells #[.int .u8 kd, .string name, .string dst, .int .i64 an, .slice ca cn cc] 34)).alloc (.cells #[.slice none 0 0, .slice none 0 0, .slice none 0 0, .slice none 0 0, .int .i64 0, .int .i64 0, .bool false] 31)) := (((Fresh.refl w).alloc _).alloc _).alloc _
  have h1 : Ready0 base (((w.alloc (.cells #[.slice R.fa r.files.length R.fc, .slice R.na r.now.length R.nc, .slice R.sa r.safe.length R.sc, .slice R.wa r.wait.length R.wc, .int .i64 r.left, .int .i64 r.steps, .bool r.down] 31)).alloc (.cells #[.int .u8 kd, .string name, .string dst, .int .i64 an, .slice ca cn cc] 34)).alloc (.cells #[.slice none 0 0, .slice none 0 0, .slice none 0 0, .slice none 0 0, .int .i64 0, .int .i64 0, .bool false] 31)) b s L r k := ⟨h.fs.move hf1, h.rel, h.few⟩
  have HREL4 := Lib.hid (h.rel.mono (Nat.le_succ k))
  have HAT := Lib.hid (hat.move hf1)
  have HB1 := Lib.hid (dbox_made w #[.slice R.fa r.files.length R.fc, .slice R.na r.now.length R.nc, .slice R.sa r.safe.length R.sc, .slice R.wa r.wait.length R.wc, .int .i64 r.left, .int .i64 r.steps, .bool r.down] #[.int .u8 kd, .string name, .string dst, .int .i64 an, .slice ca cn cc] #[.slice none 0 0, .slice none 0 0, .slice none 0 0, .slice none 0 0, .int .i64 0, .int .i64 0, .bool false])
  have HK1 := Lib.hid (Kept.fresh' (base := base) hf1)
  have HFS1 := Lib.hid h1.fs
  have HREL := Lib.hid h.rel
  obtain ⟨fl, nl, sl, wl, left, steps, down⟩ := r
  obtain ⟨fa, fc, na, nc, sa, sc, wa, wc⟩ := R
  dsimp only [rval] at *
  have hsz1 : w.heap.size ≤ (((w.alloc (.cells #[.slice fa fl.length fc, .slice na nl.length nc, .slice sa sl.length sc, .slice wa wl.length wc, .int .i64 left, .int .i64 steps, .bool down] 31)).alloc (.cells #[.int .u8 kd, .string name, .string dst, .int .i64 an, .slice ca cn cc] 34)).alloc (.cells #[.slice none 0 0, .slice none 0 0, .slice none 0 0, .slice none 0 0, .int .i64 0, .int .i64 0, .bool false] 31)).heap.size := hf1.size
  have HFR1 := Lib.hid hf1
  clear h h1 hat hf1
  go_enter Try.func8, Try.ntmps8
  go_upto_region 1 with (fail)
  generalize ((w.alloc (.cells #[.slice fa fl.length fc, .slice na nl.length nc, .slice sa sl.length sc, .slice wa wl.length wc, .int .i64 left, .int .i64 steps, .bool down] 31)).alloc (.cells #[.int .u8 kd, .string name, .string dst, .int .i64 an, .slice ca cn cc] 34)).alloc (.cells #[.slice none 0 0, .slice none 0 0, .slice none 0 0, .slice none 0 0, .int .i64 0, .int .i64 0, .bool false] 31) = w3 at *
  have HB3 := HB1
  have HR3 := HAT
  have HFS3 := HFS1
  have HK3 := HK1
  obtain ⟨⟨p0, p1, p2, p3, p4, p5, p6⟩, ⟨q0, q1, q2, q3, q4, q5, q6⟩⟩ := (RBox.mk HB3.out.bx).cells
  have a0 := cell_of_at HB3.out.ax (i := 0) rfl
  have a1 := cell_of_at HB3.out.ax (i := 1) rfl
  have a2 := cell_of_at HB3.out.ax (i := 2) rfl
  have a3 := cell_of_at HB3.out.ax (i := 3) rfl
  have a4 := cell_of_at HB3.out.ax (i := 4) rfl
  have HZ4 : Hid (RBox w3 (w.heap.size + 1 + 1) _ _ _ _ _ _ _) := ⟨HB3.out.rx⟩
  obtain ⟨⟨s0, s1, s2, s3, s4, s5, s6⟩, ⟨t0, t1, t2, t3, t4, t5, t6⟩⟩ := HZ4.out.cells
  go_wp2
  have HZG := Lib.hid (box_set HZ4.out (.slice fa fl.length fc) (.slice na nl.length nc) (.slice sa sl.length sc) (.slice wa wl.length wc) (.int .i64 left) (.int .i64 (steps : Nat)) (.bool down))
  clear s0 s1 s2 s3 s4 s5 s6 t0 t1 t2 t3 t4 t5 t6 p0 p1 p2 p3 p4 p5 p6
  generalize (((((((w3.setCell ⟨w.heap.size + 1 + 1, 0, none⟩ (.slice fa fl.length fc)).setCell ⟨w.heap.size + 1 + 1, 1, none⟩ (.slice na nl.length nc)).setCell ⟨w.heap.size + 1 + 1, 2, none⟩ (.slice sa sl.length sc)).setCell ⟨w.heap.size + 1 + 1, 3, none⟩ (.slice wa wl.length wc)).setCell ⟨w.heap.size + 1 + 1, 4, none⟩ (.int .i64 left)).setCell ⟨w.heap.size + 1 + 1, 5, none⟩ (.int .i64 (steps : Nat))).setCell ⟨w.heap.size + 1 + 1, 6, none⟩ (.bool down)) = w5 at *
  obtain ⟨⟨s0, s1, s2, s3, s4, s5, s6⟩, _⟩ := HZG.out.1.cells
  exact bodyPost_ret (v := .tuple #[.agg #[.slice fa fl.length fc, .slice na nl.length nc, .slice sa sl.length sc, .slice wa wl.length wc, .int .i64 left, .int .i64 (steps : Nat), .bool down], .bool true]) (by simp [results, Try.results8, go_sem, s0, s1, s2, s3, s4, s5, s6]) rfl ⟨_, _, ⟨fl, nl, sl, wl, left, steps, down⟩, ⟨fa, fc, na, nc, sa, sc, wa, wc⟩, rfl, HFS3.out.off HZ4.out.at_ (by decide) HZG.out.2, HR3.out.box HZ4.out.at_ HZG.out.2, HREL4.out, HK3.out.own HZG.out.2 (by omega)⟩
theorem act_any (h : Ready0 base w b s L r k) (R : RLay) (kd : Int) (name dst : ByteArray) (an : Int) (ca : Option Addr) (cn cc : Nat) (hs : name.size ≤ 1000) (hs2 : dst.size ≤ 1000) (han : -9223372036854775808 ≤ an ∧ an ≤ 9223372036854775807) (hcn : cn ≤ 1000) (hcv : CutsV base w ca cn) (hat : RAt w r R) :
    Calls Try.prog 8 #[.pointer (some ⟨b, 0, none⟩), rval r R, .agg #[.int .u8 kd, .string name, .string dst, .int .i64 an, .slice ca cn cc]] w (ActIs base w b k) := by
  by_cases n0 : kd = 0
  · subst n0; exact act_write h R name dst an ca cn cc hs hs2 han hcn hcv hat
  by_cases n1 : kd = 1
  · subst n1; exact act_sync h R name dst an ca cn cc hs hs2 han hcn hcv hat
  by_cases n2 : kd = 2
  · subst n2; exact act_rename h R name dst an ca cn cc hs hs2 han hcn hcv hat
  by_cases n3 : kd = 3
  · subst n3; exact act_remove h R name dst an ca cn cc hs hs2 han hcn hcv hat
  by_cases n4 : kd = 4
  · subst n4; exact act_syncdir h R name dst an ca cn cc hs hs2 han hcn hcv hat
  by_cases n5 : kd = 5
  · subst n5; exact act_arm h R name dst an ca cn cc hs hs2 han hcn hcv hat
  by_cases n6 : kd = 6
  · subst n6; exact act_crash h R name dst an ca cn cc hs hs2 han hcn hcv hat
  · exact act_other h R kd n0 n1 n2 n3 n4 n5 n6 name dst an ca cn cc hs hs2 han hcn hcv hat
end Go.Proofs.Ytimcoofmemcojaa

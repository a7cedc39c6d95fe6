/-
  '(*FS).tear' and Crash: what was alike stays; the first of what waits is done to the safe directory, which is the one now.
-/
import Derived.Test.YtimcoofmemcojaaTorn
import Derived.Test.YtimcoofmemcojaaTearFile
namespace Go.Proofs.Ytimcoofmemcojaa
open Go.ChangeShapes Go.WideShapes Go.ChangeAt Go.RowKit
variable {base : Nat} {w : World} {b : Nat} {s : St} {L : Lay}

/-- Files whose contents are alike stay as they are. -/
def StillAlike (w w' : World) : Prop := ∀ f c x, fileAt w f c x x → fileAt w' f c x x
theorem StillAlike.refl (w : World) : StillAlike w w := fun _ _ _ h => h
theorem StillAlike.trans {a b c : World} (h : StillAlike a b) (k : StillAlike b c) : StillAlike a c := fun f i x hf => k f i x (h f i x hf)
theorem SameFiles.alike {a b : World} (h : SameFiles a b) : StillAlike a b := fun f c x hf => h f c x x hf
/-- The state of tear's loop. -/
structure TearRel (base : Nat) (w : World) (b : Nat) (s : St) (L : Lay) (g : Nat) (l : List Nat) (wr : World) : Prop where
  fs : FsAt base wr b s L
  kept : Kept base w wr
  alike : StillAlike w wr
  row : rowOf wr g l
theorem parts_ne {f f' : Nat} {c : Int} {x : ByteArray} (hp : parts w f) (h : fileAt w f' c x x) : f' ≠ f := by
  rintro rfl
  obtain ⟨c', x', y', h', hne⟩ := hp
  unfold fileAt at h h'
  rw [h] at h'
  simp at h'
  exact hne (h'.2.1.symm.trans h'.2.2)
theorem TearRel.next {g : Nat} {l : List Nat} {wr w1 : World} (h : TearRel base w b s L g l wr) {f : Nat} (hl : l ≠ []) (hf : s.has f) (hp : parts w f) (hf1 : isFile base w1 f) (hg : wr.grownBy w1 (some f)) : TearRel base w b s L g l w1 := by
  have h0 := h.fs.files f hf
  have hne := frow_ne h.row hl f h0
  refine ⟨h.fs.onFile h0 hg hf1, h.kept.trans (h0.kept hg), fun f' c x hx => ?_, fun j hj => ?_⟩
  · have h1 := h.alike f' c x hx
    unfold fileAt at *
    rw [hg.block f' (lt_of_at h1) (by simpa using parts_ne hp hx)]
    exact h1
  · have hgl : g < wr.heap.size := by
      have := (h.row j hj).1
      exact Classical.byContradiction fun hge => by simp [World.cell?, Array.getElem?_eq_none (Nat.le_of_not_lt hge)] at this
    have hbk := hg.block g hgl (by simpa using fun e => hne e.symm)
    exact ⟨by rw [World.cell?_of_block (w := wr) hbk]; exact (h.row j hj).1, by rw [World.frozen?_of_block (w := wr) hbk]; exact (h.row j hj).2⟩
/-- Where cuts lie: below 'base', n of them. -/
structure CutsAt (base : Nat) (w : World) (gc off n : Nat) (z : Nat → Int) : Prop where
  low : gc < base
  cell : ∀ i, i < n → w.cell? ⟨gc, off + i, none⟩ = some (.int .i64 (z i))
  le : ∀ i, z i ≤ 9223372036854775807
theorem CutsAt.kept {gc off n : Nat} {z : Nat → Int} {w' : World} (h : CutsAt base w gc off n z) (hk : Kept base w w') (hb : base ≤ w.heap.size) : CutsAt base w' gc off n z :=
  ⟨h.low, fun i hi => by rw [Below.cell (hk.below hb) (p := ⟨gc, off + i, none⟩) h.low]; exact h.cell i hi, h.le⟩
/-- What tear leaves. -/
def TearIs (base : Nat) (w : World) (b : Nat) (s : St) (L : Lay) (e : Ending) (w' : World) : Prop := e = .returned (.tuple #[]) ∧ FsAt base w' b s L ∧ Kept base w w' ∧ StillAlike w w'
theorem FsAt.low (h : FsAt base w b s L) : base ≤ w.heap.size := Nat.le_trans h.hb (Nat.le_of_lt h.lt)
set_option maxRecDepth 100000 in
set_option maxHeartbeats 1000000 in
theorem tearfs_some (h : FsAt base w b s L) (hst : s.steps ≤ 100000) {gc off n capc : Nat} {z : Nat → Int} (hc : CutsAt base w gc off n z) (hn : n ≤ 1000000) :
    Calls Try.prog 32 #[.pointer (some ⟨b, 0, none⟩), .slice (some ⟨gc, off, none⟩) n capc] w (TearIs base w b s L) := by
  have hlow := h.low
  have HH := Lib.hid h
  have HC := Lib.hid hc
  clear h hc
  go_enter Try.func32, Try.ntmps32
  go_wp2_with fail
  refine (torn_any HH.out hst).mono ?_
  rintro e w1 ⟨hfr, rfl | ⟨g, cap, l, rfl, hg, hl, hrow, hall⟩⟩
  · have HFR := Lib.hid hfr
    clear hfr
    go_wp2
    go_loop [10] (fun i => i = .int .i64 0) (fun _ => 0)
    case atStart => rfl
    case round =>
      obtain rfl := hrel
      go_wp2
      go_end0
      exact ⟨rfl, HH.out.move HFR.out, HFR.out.kept, (SameFiles.fresh HFR.out).alike⟩
  · have HR0 : Hid (TearRel base w b s L g l w1) := ⟨HH.out.move hfr, hfr.kept, (SameFiles.fresh hfr).alike, hrow⟩
    have HA := Lib.hid hall
    clear hfr hrow hall hg
    go_wp2
    go_loopw [10] (fun i wr => ∃ k : Nat, k ≤ l.length ∧ i = .int .i64 k ∧ TearRel base w b s L g l wr) (fun i _ => l.length - (intOf i).toNat)
    case atStart => exact ⟨0, Nat.zero_le _, rfl, HR0.out⟩
    case round =>
      obtain ⟨k, hk, rfl, hR⟩ := hrel
      by_cases hlt : k < l.length
      · have hcell := (hR.row k hlt).1
        obtain ⟨hhas, hpt⟩ := HA.out l[k] (List.getElem_mem _)
        have hlne : l ≠ [] := List.ne_nil_of_mem (List.getElem_mem hlt)
        have hfile := hR.fs.files l[k] hhas
        have HN : Hid (∀ w2, isFile base w2 l[k] → wr.grownBy w2 (some l[k]) → TearRel base w b s L g l w2) := fun w2 h1 h2 => hR.next hlne hhas hpt h1 h2
        have hcut := (HC.out.kept hR.kept hlow).cell
        have hle := HC.out.le k
        generalize l[k] = f at *
        have HF := Lib.hid hfile
        clear hhas hpt hfile hR hlne
        by_cases hkn : k < n
        · have hck := hcut k hkn
          clear hcut
          generalize z k = zk at *
          go_wp2_with (go_at_call 45; refine (tear_any _ _ HF.out hle).mono ?_; rintro e w2 ⟨rfl, hf2, hg2⟩)
          have HN2 := HN.out w2 hf2 hg2
          clear hf2 hg2
          go_roundw
          case rel => exact ⟨k + 1, by omega, by go_num, HN2⟩
          case measure => simp [intOf]; omega
        · clear hcut
          go_wp2_with (go_at_call 45; refine (tear_any _ _ HF.out (by omega)).mono ?_; rintro e w2 ⟨rfl, hf2, hg2⟩)
          have HN2 := HN.out w2 hf2 hg2
          clear hf2 hg2
          go_roundw
          case rel => exact ⟨k + 1, by omega, by go_num, HN2⟩
          case measure => simp [intOf]; omega
      · obtain rfl : k = l.length := by omega
        have HR := Lib.hid hR
        clear hR
        go_wp2
        go_end0
        exact ⟨rfl, HR.out.fs, HR.out.kept, HR.out.alike⟩
set_option maxRecDepth 100000 in
set_option maxHeartbeats 1000000 in
theorem tearfs_none (h : FsAt base w b s L) (hst : s.steps ≤ 100000) (a : Option Addr) (capc : Nat) :
    Calls Try.prog 32 #[.pointer (some ⟨b, 0, none⟩), .slice a 0 capc] w (TearIs base w b s L) := by
  have hlow := h.low
  have HH := Lib.hid h
  clear h
  go_enter Try.func32, Try.ntmps32
  go_wp2_with fail
  refine (torn_any HH.out hst).mono ?_
  rintro e w1 ⟨hfr, rfl | ⟨g, cap, l, rfl, hg, hl, hrow, hall⟩⟩
  · have HFR := Lib.hid hfr
    clear hfr
    go_wp2
    go_loop [10] (fun i => i = .int .i64 0) (fun _ => 0)
    case atStart => rfl
    case round =>
      obtain rfl := hrel
      go_wp2
      go_end0
      exact ⟨rfl, HH.out.move HFR.out, HFR.out.kept, (SameFiles.fresh HFR.out).alike⟩
  · have HR0 : Hid (TearRel base w b s L g l w1) := ⟨HH.out.move hfr, hfr.kept, (SameFiles.fresh hfr).alike, hrow⟩
    have HA := Lib.hid hall
    clear hfr hrow hall hg
    go_wp2
    go_loopw [10] (fun i wr => ∃ k : Nat, k ≤ l.length ∧ i = .int .i64 k ∧ TearRel base w b s L g l wr) (fun i _ => l.length - (intOf i).toNat)
    case atStart => exact ⟨0, Nat.zero_le _, rfl, HR0.out⟩
    case round =>
      obtain ⟨k, hk, rfl, hR⟩ := hrel
      by_cases hlt : k < l.length
      · have hcell := (hR.row k hlt).1
        obtain ⟨hhas, hpt⟩ := HA.out l[k] (List.getElem_mem _)
        have hlne : l ≠ [] := List.ne_nil_of_mem (List.getElem_mem hlt)
        have hfile := hR.fs.files l[k] hhas
        have HN : Hid (∀ w2, isFile base w2 l[k] → wr.grownBy w2 (some l[k]) → TearRel base w b s L g l w2) := fun w2 h1 h2 => hR.next hlne hhas hpt h1 h2
        generalize l[k] = f at *
        have HF := Lib.hid hfile
        clear hhas hpt hfile hR hlne
        go_wp2_with (go_at_call 45; refine (tear_any _ _ HF.out (by omega)).mono ?_; rintro e w2 ⟨rfl, hf2, hg2⟩)
        have HN2 := HN.out w2 hf2 hg2
        clear hf2 hg2
        go_roundw
        case rel => exact ⟨k + 1, by omega, by go_num, HN2⟩
        case measure => simp [intOf]; omega
      · obtain rfl : k = l.length := by omega
        have HR := Lib.hid hR
        clear hR
        go_wp2
        go_end0
        exact ⟨rfl, HR.out.fs, HR.out.kept, HR.out.alike⟩

theorem onAll_from {m : Dir} : ∀ {l : List Deed} {n : ByteArray} {f : Nat}, onAll m l n = some f → (∃ d ∈ l, d.file = f) ∨ ∃ n', m n' = some f := by
  intro l
  suffices h : ∀ r : List Deed, ∀ {n : ByteArray} {f : Nat}, onAll m r.reverse n = some f → (∃ d ∈ r, d.file = f) ∨ ∃ n', m n' = some f by
    intro n f hx
    have := h l.reverse (n := n) (f := f) (by rwa [List.reverse_reverse])
    simpa using this
  intro r
  induction r with
  | nil => intro n f hx; exact .inr ⟨n, hx⟩
  | cons d r ih =>
    intro n f hx
    rw [List.reverse_cons, onAll_snoc] at hx
    unfold Deed.on at hx
    split at hx
    · cases hx; exact .inl ⟨d, by simp, rfl⟩
    · split at hx
      · cases hx
      · rcases ih hx with ⟨e, he, hf⟩ | hn
        · exact .inl ⟨e, by simp [he], hf⟩
        · exact .inr hn
/-- The state behind a crash that keeps n of what waits. -/
def St.crash (s : St) (n : Nat) : St := ⟨onAll s.safe (s.wait.take n), onAll s.safe (s.wait.take n), [], s.steps, -1, false⟩
theorem crash_fs {w2 w3 w4 : World} {n c : Nat} (hn : n ≤ s.wait.length) (h : FsAt base w b s L) (hblk : w2.heap[b]? = some (.cells #[.map (some L.bn), .map (some L.bs), .slice none 0 0, .int .i64 s.steps, .int .i64 s.left, .bool s.down] 53 (0, 0)))
    (hd : dirIs w2 L.bs (L.ns + n) (onAll s.safe (s.wait.take n))) (ht : Two b L.bs w w2) (hfr : Fresh w2 w3) (hcl : dirIs w3 c (L.ns + n) (onAll s.safe (s.wait.take n))) (hc : c = w2.heap.size) (hg : w3.grownBy w4 (some b))
    (hb4 : w4.heap[b]? = some (.cells #[.map (some c), .map (some L.bs), .slice none 0 0, .int .i64 s.steps, .int .i64 (-1), .bool false] 53 (0, 0))) :
    FsAt base w4 b (s.crash n) ⟨c, L.bs, .slice none 0 0, L.ns + n, L.ns + n⟩ ∧ Kept base w w4 ∧ SameFiles w w4 := by
  have hlow := h.low
  have hb3 := hfr.at hblk
  have hK : Kept base w w4 := ((h.two_kept ht).fresh hfr).grown hg h.hb (by rw [hb3]; simp [codeObj])
  have hS : SameFiles w w4 := ((h.two_files ht).trans (SameFiles.fresh hfr)).trans (.grown hg (fun cs e => by rw [hb3] at e; simp at e))
  refine ⟨{ hb := h.hb, blk := hb4, hn := ?_, hs := h.hs, ne := ?_, now := ?_, safe := ?_, row := World.ownsRow_nil _ _ _ _, len1 := ?_, len2 := ?_, files := ?_, ok := ?_ }, hK, hS⟩
  · show base ≤ c; have := ht.size; omega
  · show c ≠ L.bs; have := hd.lt; omega
  · exact hcl.move (hg.block _ hcl.lt (by simpa using hcl.not_cells hb3))
  · exact (hd.move (hfr.block _ hd.lt)).move (hg.block _ (by have := hd.lt; have := hfr.size; omega) (by simpa using hd.not_cells hblk))
  · show L.ns + n ≤ s.steps; have := h.len2; omega
  · show L.ns + n + 0 ≤ s.steps; have := h.len2; omega
  · intro f hf
    have hf' : s.has f := by
      rcases hf with ⟨m, hm⟩ | ⟨m, hm⟩ | ⟨d, hd, _⟩
      · rcases onAll_from hm with ⟨d, hd, he⟩ | hx
        · exact .inr (.inr ⟨d, List.mem_of_mem_take hd, he⟩)
        · exact .inr (.inl hx)
      · rcases onAll_from hm with ⟨d, hd, he⟩ | hx
        · exact .inr (.inr ⟨d, List.mem_of_mem_take hd, he⟩)
        · exact .inr (.inl hx)
      · cases hd
    obtain ⟨h0, c, x, y, hx, hh⟩ := h.files f hf'
    exact ⟨h0, c, x, y, hS f c x y hx, hh⟩
  · exact ⟨rfl, (fun d hd => by cases hd), by show (-1 : Int) ≤ -1 ∧ (-1 : Int) ≤ 9223372036854775807; omega⟩
/-- What settle leaves. -/
def SettledIs (w : World) (b : Nat) (s : St) (L : Lay) (n : Nat) (e : Ending) (w' : World) : Prop := e = .returned (.tuple #[]) ∧ w'.heap[b]? = some (.cells #[.map (some L.bn), .map (some L.bs), .slice none 0 0, .int .i64 s.steps, .int .i64 s.left, .bool s.down] 53 (0, 0)) ∧ dirIs w' L.bs (L.ns + n) (onAll s.safe (s.wait.take n)) ∧ Two b L.bs w w'
theorem settle_int (h : FsAt base w b s L) (z : Int) (n : Nat) (hz : z = n) (hn : n ≤ s.wait.length) (hst : s.steps ≤ 1000000) : Calls Try.prog 31 #[.pointer (some ⟨b, 0, none⟩), .int .i64 z] w (SettledIs w b s L n) := by
  subst hz; exact settle_any h n hn hst
theorem clone_dir {w : World} {b n : Nat} {m : Dir} (h : dirIs w b n m) : Calls Try.prog 33 #[.map (some b)] w fun e w' => e = .returned (.map (some w.heap.size)) ∧ dirIs w' w.heap.size n m ∧ Fresh w w' := by
  obtain ⟨D, h1, h2⟩ := h
  have hcon := AnyW.maps_Clone_owns Try.cloneM 9 fileR b n D w h1
  refine Calls.mono (hcon : Calls Try.prog 33 _ _ _) ?_
  rintro e w' ⟨rfl, ho, _, hb⟩
  exact ⟨rfl, ⟨D, ho, h2⟩, hb⟩
set_option maxRecDepth 100000 in
set_option maxHeartbeats 1000000 in
theorem crash_of (_h : FsAt base w b s L) (hst : s.steps ≤ 100000) (keep : Int) (v : Value) (hcuts : Calls Try.prog 32 #[.pointer (some ⟨b, 0, none⟩), v] w (TearIs base w b s L)) (n : Nat) (hn : min (max keep 0) (s.wait.length : Int) = n) :
    Calls Try.prog 14 #[.pointer (some ⟨b, 0, none⟩), .int .i64 keep, v] w fun e w' => e = .returned (.tuple #[]) ∧ (∃ L', FsAt base w' b (s.crash n) L') ∧ Kept base w w' ∧ StillAlike w w' := by
  have HC := Lib.hid hcuts
  have HN := Lib.hid hn
  have hnl : n ≤ s.wait.length := by omega
  clear hcuts hn
  go_enter Try.func14, Try.ntmps14
  go_wp2_with fail
  refine HC.out.mono ?_
  rintro e w1 ⟨rfl, hF, hK, hS⟩
  have c2 := hF.cells.2.2.1
  have HF := Lib.hid hF
  have HS := Lib.hid hS
  have HW := Lib.hid (wv_cases hF)
  clear hF hS
  have hpost : Hid (∀ w2, SettledIs w1 b s L n (.returned (.tuple #[])) w2 → Calls Try.prog 33 #[.map (some L.bs)] w2 fun e w' => e = .returned (.map (some w2.heap.size)) ∧ dirIs w' w2.heap.size (L.ns + n) (onAll s.safe (s.wait.take n)) ∧ Fresh w2 w') := fun w2 h2 => clone_dir h2.2.2.1
  rcases HW.out with ⟨e1, e2⟩ | ⟨g, cap, e1⟩
  · have hz : Hid (n = 0) := by have : s.wait.length = 0 := by rw [e2]; rfl
                                unfold Hid; omega
    rw [e1] at c2
    clear e1 e2
    go_wp2_with fail
    refine (settle_int HF.out _ n (by have := hz.out; omega) hnl (by omega)).mono ?_
    rintro e w2 h2
    have hcl := hpost.out w2 (by obtain ⟨_, h2⟩ := h2; exact ⟨rfl, h2⟩)
    obtain ⟨rfl, hb2, hd2, ht2⟩ := h2
    have q1 := cell_of_at hb2 (i := 1) rfl
    have HCL := Lib.hid hcl
    have HB2 := Lib.hid hb2
    have HD2 := Lib.hid hd2
    have HT2 := Lib.hid ht2
    clear hcl hb2 hd2 ht2
    go_wp2_with fail
    refine HCL.out.mono ?_
    rintro e w3 ⟨rfl, hd3, hf3⟩
    have hb3 := hf3.at HB2.out
    have p0 := cell_of_at hb3 (i := 0) rfl
    have p4 := cell_of_at hb3 (i := 4) rfl
    have p5 := cell_of_at hb3 (i := 5) rfl
    have g0 : w3.frozen? ⟨b, 0, none⟩ = false := by simp [World.frozen?, hb3]
    have g4 : w3.frozen? ⟨b, 4, none⟩ = false := by simp [World.frozen?, hb3]
    have g5 : w3.frozen? ⟨b, 5, none⟩ = false := by simp [World.frozen?, hb3]
    have HD3 := Lib.hid hd3
    have HF3 := Lib.hid hf3
    have HB3 := Lib.hid hb3
    clear hd3 hf3 hb3
    go_wp2
    go_end0
    have hE := crash_fs hnl HF.out HB2.out HD2.out HT2.out HF3.out HD3.out rfl (grownBy_trans (grownBy_trans (grown_set w3 b 0 (.map (some w2.heap.size))) (grown_set _ b 4 (.int .i64 (-1)))) (grown_set _ b 5 (.bool false))) (by simp [World.setCell, Array.getElem?_modify, HB3.out])
    exact ⟨rfl, ⟨_, hE.1⟩, hK.trans hE.2.1, HS.out.trans hE.2.2.alike⟩
  · rw [e1] at c2
    clear e1
    go_wp2_with fail
    refine (settle_int HF.out _ n HN.out hnl (by omega)).mono ?_
    rintro e w2 h2
    have hcl := hpost.out w2 (by obtain ⟨_, h2⟩ := h2; exact ⟨rfl, h2⟩)
    obtain ⟨rfl, hb2, hd2, ht2⟩ := h2
    have q1 := cell_of_at hb2 (i := 1) rfl
    have HCL := Lib.hid hcl
    have HB2 := Lib.hid hb2
    have HD2 := Lib.hid hd2
    have HT2 := Lib.hid ht2
    clear hcl hb2 hd2 ht2
    go_wp2_with fail
    refine HCL.out.mono ?_
    rintro e w3 ⟨rfl, hd3, hf3⟩
    have hb3 := hf3.at HB2.out
    have p0 := cell_of_at hb3 (i := 0) rfl
    have p4 := cell_of_at hb3 (i := 4) rfl
    have p5 := cell_of_at hb3 (i := 5) rfl
    have g0 : w3.frozen? ⟨b, 0, none⟩ = false := by simp [World.frozen?, hb3]
    have g4 : w3.frozen? ⟨b, 4, none⟩ = false := by simp [World.frozen?, hb3]
    have g5 : w3.frozen? ⟨b, 5, none⟩ = false := by simp [World.frozen?, hb3]
    have HD3 := Lib.hid hd3
    have HF3 := Lib.hid hf3
    have HB3 := Lib.hid hb3
    clear hd3 hf3 hb3
    go_wp2
    go_end0
    have hE := crash_fs hnl HF.out HB2.out HD2.out HT2.out HF3.out HD3.out rfl (grownBy_trans (grownBy_trans (grown_set w3 b 0 (.map (some w2.heap.size))) (grown_set _ b 4 (.int .i64 (-1)))) (grown_set _ b 5 (.bool false))) (by simp [World.setCell, Array.getElem?_modify, HB3.out])
    exact ⟨rfl, ⟨_, hE.1⟩, hK.trans hE.2.1, HS.out.trans hE.2.2.alike⟩
end Go.Proofs.Ytimcoofmemcojaa

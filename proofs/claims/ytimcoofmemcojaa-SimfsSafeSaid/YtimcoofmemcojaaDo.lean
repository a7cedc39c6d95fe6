/-
  What '(*FS).do' leaves: a deed more, done to the directory now, and waiting.
-/
import Derived.Test.YtimcoofmemcojaaDeeds
import Derived.Deep.AppendLies
import Derived.Deep.RegionLaw
import Derived.Deep.RegionWith
namespace Go.Proofs.Ytimcoofmemcojaa
open Go.ChangeShapes Go.WideShapes Go.ChangeAt Go.RowKit
variable {base : Nat} {w : World} {b : Nat} {s : St} {L : Lay}
theorem info70 : (Try.prog.info? 70).map (fun i => (i.zero, i.size, i.bytes)) = some (some (.agg #[.string ⟨#[]⟩, .string ⟨#[]⟩, .pointer none]), 3, 40) := by kernel_rfl

theorem row_far {v : Value} {n : Nat} {xs : List Value} (hr : w.ownsRow base 70 3 v n xs) {k : Nat} {o : Obj} (hk : w.heap[k]? = some o) (ho : ∀ cs z, o ≠ .cells cs 70 z) : some k ≠ v.ownBlock := by
  intro e
  obtain ⟨_, h⟩ := hr
  rcases h with ⟨e1, _⟩ | ⟨g, cap, cur, e1, _, hg, _⟩
  · rw [e1] at e; cases e
  · rw [e1] at e
    simp [Value.ownBlock] at e
    rw [e, hg] at hk
    cases hk
    exact ho _ _ rfl
theorem row_code {v : Value} {n : Nat} {xs : List Value} (hr : w.ownsRow base 70 3 v n xs) {g : Nat} (hg : v.ownBlock = some g) : base ≤ g ∧ codeObj w.heap[g]? := by
  obtain ⟨_, h⟩ := hr
  rcases h with ⟨e1, _⟩ | ⟨g', cap, cur, e1, hb, hg', _⟩
  · rw [e1] at hg; cases hg
  · rw [e1] at hg
    simp [Value.ownBlock] at hg
    subst hg
    exact ⟨hb, by rw [hg']; simp [codeObj]⟩
/-- Blocks that aren't cells of type 70 stay behind an append to what waits. -/
theorem row_grown {w' : World} {v : Value} {n : Nat} {xs : List Value} (hr : w.ownsRow base 70 3 v n xs) (hg : w.grownBy w' v.ownBlock) {k : Nat} {o : Obj} (hk : w.heap[k]? = some o) (ho : ∀ cs z, o ≠ .cells cs 70 z) : w'.heap[k]? = some o :=
  (hg.block k (lt_of_at hk) (row_far hr hk ho)).trans hk
theorem Kept.row {a w' : World} {v : Value} {n : Nat} {xs : List Value} (h : Kept base a w) (hr : w.ownsRow base 70 3 v n xs) (hg : w.grownBy w' v.ownBlock) : Kept base a w' := by
  cases hv : v.ownBlock with
  | none => rw [hv] at hg; exact h.fresh ⟨hg.os, hg.tape, hg.output, hg.size, fun k hk => hg.block k hk (by simp)⟩
  | some g => rw [hv] at hg; exact h.grown hg (row_code hr hv).1 (row_code hr hv).2
def St.does (s : St) (d : Deed) : St := { s with now := d.on s.now, wait := s.wait ++ [d] }
theorem dirIs.obj {w : World} {b n : Nat} {m : Dir} (h : dirIs w b n m) : ∃ es c, w.heap[b]? = some (.map es c) := by
  obtain ⟨D, ⟨es, clock, h1, r⟩, h2⟩ := h; exact ⟨es, clock, h1⟩
theorem do_end {w0 w1 w1' w2 : World} (h : FsAt base w0 b s L) (d : Deed) (hfile : isFile base w0 d.file) (hl1 : L.nn < s.steps) (hl2 : L.ns + s.wait.length < s.steps) (hs1 : d.src.size ≤ 64) (hs2 : d.dst.size ≤ 64)
    (hd1 : dirIs w1 L.bn (L.nn + 1) (d.on s.now)) (hg1 : w0.grownBy w1 (some L.bn)) (hF : Fresh w1 w1') (hr : w1'.ownsRow base 70 3 L.wv s.wait.length (cellsOf s.wait)) {g cap : Nat}
    (hown : w2.ownsRow base 70 3 (.slice (some ⟨g, 0, none⟩) (s.wait.length + 1) cap) (s.wait.length + 1) (cellsOf s.wait ++ d.cells)) (hgrow : w1'.grownBy w2 L.wv.ownBlock) :
    (∃ L', FsAt base (w2.setCell ⟨b, 2, none⟩ (.slice (some ⟨g, 0, none⟩) (s.wait.length + 1) cap)) b (s.does d) L') ∧ Kept base w0 (w2.setCell ⟨b, 2, none⟩ (.slice (some ⟨g, 0, none⟩) (s.wait.length + 1) cap)) ∧
      SameFiles w0 (w2.setCell ⟨b, 2, none⟩ (.slice (some ⟨g, 0, none⟩) (s.wait.length + 1) cap)) := by
  -- where blocks of w0 stand in w2
  have to2 : ∀ k o, w0.heap[k]? = some o → k ≠ L.bn → (∀ cs z, o ≠ .cells cs 70 z) → w2.heap[k]? = some o := fun k o hk hne ho =>
    row_grown hr hgrow (hF.at ((hg1.block k (lt_of_at hk) (by simpa using hne)).trans hk)) ho
  have hb2 : w2.heap[b]? = _ := to2 b _ h.blk (fun e => h.now.not_cells h.blk e.symm) (by simp)
  have hnb : g ≠ b := fun e => by
    obtain ⟨_, hx⟩ := hown
    rcases hx with ⟨e1, _⟩ | ⟨g', cap', cur, e1, _, hg', _⟩
    · cases e1
    · simp at e1
      rw [← e1.1, e, hb2] at hg'
      simp at hg'
  have hset := grown_set w2 b 2 (.slice (some ⟨g, 0, none⟩) (s.wait.length + 1) cap)
  generalize hw3 : w2.setCell ⟨b, 2, none⟩ (.slice (some ⟨g, 0, none⟩) (s.wait.length + 1) cap) = w3 at hset ⊢
  have to3 : ∀ k o, w2.heap[k]? = some o → k ≠ b → w3.heap[k]? = some o := fun k o hk hne => (hset.block k (lt_of_at hk) (by simpa using hne)).trans hk
  obtain ⟨es, ck, hbn⟩ := hd1.obj
  obtain ⟨es', ck', hbs⟩ := h.safe.obj
  have hn2 : w2.heap[L.bn]? = w1.heap[L.bn]? := by
    rw [hbn]; exact row_grown hr hgrow (hF.at hbn) (by simp)
  have hs2' : w2.heap[L.bs]? = w0.heap[L.bs]? := by
    rw [hbs]; exact to2 _ _ hbs (fun e => h.ne e.symm) (by simp)
  have hn3 : w3.heap[L.bn]? = w1.heap[L.bn]? := by
    rw [hbn]; exact to3 _ _ (by rw [hn2, hbn]) (h.now.not_cells h.blk)
  have hs3 : w3.heap[L.bs]? = w0.heap[L.bs]? := by
    rw [hbs]; exact to3 _ _ (by rw [hs2', hbs]) (h.safe.not_cells h.blk)
  have hfs : SameFiles w0 w3 := fun f c x y hf => to3 _ _ (to2 f _ hf (fun e => by rw [e] at hf; exact h.now.not_cells hf rfl) (by simp)) (fun e => by rw [e, fileAt, h.blk] at hf; simp at hf)
  have hfi : ∀ f, isFile base w0 f → isFile base w3 f := fun f ⟨h0, c, x, y, hf, hh⟩ => ⟨h0, c, x, y, hfs f c x y hf, hh⟩
  have hK : Kept base w0 w3 := (((((Kept.refl base w0).grown hg1 h.hn h.now.code).fresh hF).row hr hgrow)).grown hset h.hb (by rw [hb2]; simp [codeObj])
  refine ⟨⟨⟨L.bn, L.bs, .slice (some ⟨g, 0, none⟩) (s.wait.length + 1) cap, L.nn + 1, L.ns⟩, ?_⟩, hK, hfs⟩
  exact {
    hb := h.hb
    blk := by rw [← hw3]; simp [World.setCell, Array.getElem?_modify, hb2, St.does]
    hn := h.hn
    hs := h.hs
    ne := h.ne
    now := hd1.move hn3
    safe := h.safe.move hs3
    row := by
      have : (s.does d).wait.length = s.wait.length + 1 := by simp [St.does]
      rw [this]
      rw [show cellsOf (s.does d).wait = cellsOf s.wait ++ d.cells from cellsOf_snoc _ _]
      exact hown.kept hset (by right; simpa [Value.ownBlock] using hnb)
    len1 := by show L.nn + 1 ≤ s.steps; omega
    len2 := by show L.ns + (s.wait ++ [d]).length ≤ s.steps; simp; omega
    files := by
      intro f hf
      rcases hf with ⟨n, hn⟩ | ⟨n, hn⟩ | ⟨e, he, rfl⟩
      · simp only [St.does, Deed.on] at hn
        split at hn
        · cases hn; exact hfi _ hfile
        · split at hn
          · cases hn
          · exact hfi _ (h.files f (.inl ⟨n, hn⟩))
      · exact hfi _ (h.files f (.inr (.inl ⟨n, hn⟩)))
      · simp only [St.does, List.mem_append, List.mem_singleton] at he
        rcases he with he | rfl
        · exact hfi _ (h.files _ (.inr (.inr ⟨e, he, rfl⟩)))
        · exact hfi _ hfile
    ok := by
      refine ⟨?_, ?_, h.ok.left⟩
      · show onAll s.safe (s.wait ++ [d]) = d.on s.now
        rw [onAll_snoc, h.ok.fold]
      · intro e he
        simp only [St.does, List.mem_append, List.mem_singleton] at he
        rcases he with he | rfl
        · exact h.ok.named e he
        · exact ⟨hs1, hs2⟩ }
theorem deed_one (d : Deed) : ∀ u ∈ d.cells, u.oneCell' = true := by
  intro u hu
  simp only [Deed.cells, List.mem_cons, List.not_mem_nil, or_false] at hu
  rcases hu with rfl | rfl | rfl <;> rfl
/-- Where a deed is appended: facts of the world there. -/
structure AtAppend (base : Nat) (W : World) (v : Value) (l : List Deed) (B : Nat) (d : Deed) : Prop where
  own : W.ownsRow base 70 3 v l.length (cellsOf l)
  box : ∀ j u, (Deed.cells d)[j]? = some u → W.cell? ((⟨B, 0, none⟩ : Addr).add j) = some u
  low : base ≤ W.heap.size
set_option maxRecDepth 100000 in
set_option maxHeartbeats 1000000 in
theorem do_any (h : FsAt base w b s L) (d : Deed) (hfile : isFile base w d.file) (hl1 : L.nn < s.steps) (hl2 : L.ns + s.wait.length < s.steps) (hst : s.steps ≤ 1000000) (hs1 : d.src.size ≤ 64) (hs2 : d.dst.size ≤ 64) :
    Calls Try.prog 30 #[.pointer (some ⟨b, 0, none⟩), .agg #[.string d.src, .string d.dst, .pointer (some ⟨d.file, 0, none⟩)]] w fun e w' => e = .returned (.tuple #[]) ∧ (∃ L', FsAt base w' b (s.does d) L') ∧ Kept base w w' ∧ SameFiles w w' := by
  obtain ⟨i0, hi, hz0, hz1, hz2⟩ := info_parts info70
  have hfr : Fresh w (w.alloc (.cells #[.string d.src, .string d.dst, .pointer (some ⟨d.file, 0, none⟩)] 70)).drew := ((Fresh.refl w).alloc _).drew
  have h1 := h.move hfr
  have hfile1 := hfile.move (hfr.block _ hfile.lt)
  have c0 := (h.move ((Fresh.refl w).alloc (.cells #[.string d.src, .string d.dst, .pointer (some ⟨d.file, 0, none⟩)] 70))).cells.1
  have hbw : b < w.heap.size := h.lt
  have hnw : L.bn < w.heap.size := h.now.lt
  have hbase : base ≤ w.heap.size := Nat.le_trans h.hb (Nat.le_of_lt hbw)
  have HB := Lib.hid hfr
  have HH := Lib.hid h1
  have HF := Lib.hid hfile1
  clear h h1 hfile hfile1 hfr
  go_enter Try.func30, Try.ntmps30
  go_wp2
  go_region_with (go_at_call 43; refine (doTo_any _ d _ _ _ (by omega) hs1 hs2 HH.out.now).mono ?_; rintro e w1 ⟨rfl, hd1, hg1⟩)
  all_goals
    have HD1 := Lib.hid hd1
    have HG1 := Lib.hid hg1
    clear hd1 hg1
    have hne : b ≠ L.bn := fun e => HH.out.now.not_cells HH.out.blk e.symm
    have x1 : w1.heap[b]? = _ := (HG1.out.block b HH.out.lt (by simpa using hne)).trans HH.out.blk
    have hbx : w1.heap[w.heap.size]? = _ := (HG1.out.block w.heap.size (by show w.heap.size < (w.alloc _).heap.size; simp) (by simp; omega)).trans (at_new w _)
    have hsz : w.heap.size < w1.heap.size := lt_of_at hbx
    have k2 := cell_of_at x1 (i := 2) rfl
    have d0 := cell_of_at hbx (i := 0) rfl
    have d1 := cell_of_at hbx (i := 1) rfl
    have d2 := cell_of_at hbx (i := 2) rfl
    have f2 : w1.frozen? ⟨b, 2, none⟩ = false := by simp [World.frozen?, x1]
    have HR : Hid (w1.ownsRow base 70 3 L.wv s.wait.length (cellsOf s.wait)) := HH.out.row.kept HG1.out (by
      obtain ⟨es, c, ho⟩ := HH.out.now.obj
      have := row_far HH.out.row ho (by simp)
      exact .inr fun e => this e.symm)
    have HX := Lib.hid x1
    clear x1 hbx c0
    go_wp2_with fail
    have hA : AtAppend base (w1.alloc (.cells #[.string d.src, .string d.dst, .pointer (some ⟨d.file, 0, none⟩)] 70)).drew L.wv s.wait w1.heap.size d := ⟨HR.out.alloc _, World.news_of_block (w := (w1.alloc (.cells #[.string d.src, .string d.dst, .pointer (some ⟨d.file, 0, none⟩)] 70)).drew) (at_new w1 (.cells #[.string d.src, .string d.dst, .pointer (some ⟨d.file, 0, none⟩)] 70)), by show base ≤ (w1.alloc _).heap.size; simp; omega⟩
    have k3 : (w1.alloc (.cells #[.string d.src, .string d.dst, .pointer (some ⟨d.file, 0, none⟩)] 70)).cell? ⟨b, 2, none⟩ = some L.wv := cell_of_at (at_alloc HX.out) (i := 2) rfl
    have hm1 : s.wait.length + 1 ≤ maxLen := by unfold maxLen; omega
    have hm2 : (s.wait.length + 1) * 40 ≤ 140737488355328 := by omega
    go_region_law (refine step_append_lies _ rfl (.tmp 14) (.tmp 16) 51 rfl base 70 i0 _ 3 40 Try.underlying51 hi hz0 hz1 hz2 rfl (by decide) L.wv s.wait.length (cellsOf s.wait) (by simp [Act.eval]) hA.own ⟨w1.heap.size, 0, none⟩ 1 1 (Deed.cells d) (by simp [Act.eval]) rfl hA.box (deed_one d) (by omega) hm1 hm2 hA.low _ rfl ?_; intro g cap w2 hown hgrow hat hlt; have hb2 := row_grown hA.own hgrow (at_alloc HX.out) (by simp); have kk := cell_of_at hb2 (i := 2) rfl; have kf : w2.frozen? ⟨b, 2, none⟩ = false := (by simp [World.frozen?, hb2]); have HOW := Lib.hid hown; have HGR := Lib.hid hgrow; clear hown hgrow hat hb2)
    all_goals
      have hE := do_end HH.out d HF.out hl1 hl2 hs1 hs2 HD1.out HG1.out (((Fresh.refl w1).alloc _).drew) hA.own HOW.out HGR.out
      go_wp2
      go_end0
      exact ⟨rfl, hE.1, HB.out.kept.trans hE.2.1, (SameFiles.fresh HB.out).trans hE.2.2⟩
end Go.Proofs.Ytimcoofmemcojaa

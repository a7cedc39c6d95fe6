/-
  '(*FS).torn': files of the system whose contents part; nothing of the system turns.
-/
import Derived.Test.YtimcoofmemcojaaSort
namespace Go.Proofs.Ytimcoofmemcojaa
open Go.ChangeShapes Go.WideShapes Go.ChangeAt Go.RowKit
variable {base : Nat} {w : World} {b : Nat} {s : St} {L : Lay}
theorem info63 : (Try.prog.info? 63).map (fun i => (i.zero, i.size, i.bytes)) = some (some (.pointer none), 1, 8) := by kernel_rfl

/-- The step of a range over a directory. -/
theorem wpList_next_dir (w : World) {ops : Array Oper} {rest : List Oper} {o : Oper} {a : Act} {Q : Exit → Act → World → Prop} (hg : o.guard = none) (it : Operand) (hop : o.op = Op.next it false) (b r n : Nat) (D : DataW Unit) (m : Dir) (hD : DirFact m D) (left : Lit → Bool) (cnt : Nat)
    (hit : a.eval it = .pointer (some ⟨r, 0, none⟩)) (h : w.ranges Try.prog 9 fileR b r n D left cnt)
    (hDone : cnt = 0 → wpList Try.prog ops Q rest (a.put o.dst (.tuple #[.bool false])) w)
    (hMore : ∀ (x : ByteArray) (f : Nat) (left' : Lit → Bool) (w' : World) (cnt' : Nat), m x = some f → w'.ranges Try.prog 9 fileR b r n D left' cnt' → cnt' < cnt →
      w.grownBy w' (some r) → w'.heap.size = w.heap.size → (Instr.entry (.pointer (some ⟨r, 0, none⟩))).run Try.prog w' = .ok (.tuple #[.string x, .pointer (some ⟨f, 0, none⟩)]) w' → wpList Try.prog ops Q rest (a.put o.dst (.tuple #[.bool true, .string x, .pointer (some ⟨f, 0, none⟩)])) w') :
    wpList Try.prog ops Q (o :: rest) a w := by
  refine wpList_next_ranges (α := ByteArray) (β := Option Nat) w hg it hop 9 law9 fileR Value.string (fun c => .pointer (c.map fun f => ⟨f, 0, none⟩)) ?_ ?_ b r n D left cnt hit h (fun h0 _ => hDone h0) ?_
  · intro key kl hkey
    cases key <;> simp [keyOf, Try.underlying9, mapKey] at hkey
    exact ⟨_, rfl⟩
  · intro v y hv
    rcases fileR_inv hv with rfl | ⟨f, rfl, _⟩
    · exact ⟨none, rfl⟩
    · exact ⟨some f, rfl⟩
  · intro x c kl y w' cnt' hkey _ hv hat hrg hlt hgr hsz hen
    have hkl : kl = key x := by
      by_cases hs : x.size ≤ maxLen
      · rw [key_of x hs] at hkey; exact (Option.some.inj hkey).symm
      · simp [keyOf, Try.underlying9, mapKey, hs] at hkey
    subst hkl
    cases hm : m x with
    | none =>
      have := (hD x).1 hm
      rw [Maps.has_true_of_atKey hat] at this
      cases this
    | some f =>
      have h1 := ((hD x).2 f hm).2 .nil
      rw [hat] at h1
      obtain ⟨y1, y2⟩ := y
      dsimp only at h1
      subst h1
      cases c with
      | none => simp [fileR] at hv
      | some f' =>
        have : f' = f := by
          simp [fileR] at hv
          omega
        subst this
        exact hMore x f' _ w' cnt' hm hrg hlt hgr hsz hen
/-- Files that were gathered, in a row of the call's own. -/
structure Gather (w : World) (s : St) (wr : World) (v : Value) (l : List Nat) : Prop where
  own : wr.ownsRow (w.heap.size + 1) 63 1 v l.length (l.map fp)
  has : ∀ f ∈ l, s.has f
  fresh : Fresh w wr
theorem Gather.more {w wr w1 w2 : World} {v v' : Value} {l : List Nat} (h : Gather w s wr v l) (f : Nat) (hf : s.has f) (hk : w1.ownsRow (w.heap.size + 1) 63 1 v l.length (l.map fp)) (hfr : Fresh w w1)
    (hown : w2.ownsRow (w.heap.size + 1) 63 1 v' (l.length + 1) (l.map fp ++ [fp f])) (hgrow : w1.grownBy w2 v.ownBlock) : Gather w s w2 v' (l ++ [f]) := by
  refine ⟨by simpa using hown, fun g hg => ?_, ?_⟩
  · rw [List.mem_append, List.mem_singleton] at hg
    rcases hg with hg | rfl
    · exact h.has g hg
    · exact hf
  · exact Below.grown hfr hgrow hfr.size (fun k e => by have := (hk.lt k e).1; omega)
/-- The first loop: entries of the safe directory are still to come. -/
def Loop1 (w : World) (s : St) (L : Lay) (D : DataW Unit) (v : Value) (wr : World) : Prop := ∃ (l : List Nat) (left : Lit → Bool) (cnt : Nat), wr.ranges Try.prog 9 fileR L.bs w.heap.size L.ns D left cnt ∧ l.length + cnt ≤ L.ns ∧ Gather w s wr v l
def Loop2 (w : World) (s : St) (L : Lay) (k : Nat) (v : Value) (wr : World) : Prop := ∃ l : List Nat, l.length ≤ L.ns + k ∧ Gather w s wr v l
/-- What torn answers: a row of files whose contents part, or none. -/
def TornIs (w : World) (s : St) (e : Ending) (w' : World) : Prop := Fresh w w' ∧ ((e = .returned (.slice none 0 0)) ∨ ∃ g cap l, e = .returned (.slice (some ⟨g, 0, none⟩) l.length cap) ∧ w.heap.size < g ∧ l.length ≤ s.steps ∧ rowOf w' g l ∧ (∀ f ∈ l, s.has f ∧ parts w f))
theorem own_form {B : Nat} {wr : World} {v : Value} {l : List Nat} (h : wr.ownsRow B 63 1 v l.length (l.map fp)) : (v = .slice none 0 0 ∧ l = []) ∨ ∃ g cap, v = .slice (some ⟨g, 0, none⟩) l.length cap ∧ B ≤ g ∧ l.length ≤ cap ∧ cap ≤ maxLen ∧ rowOf wr g l := by
  have hc := fun g hg => h.cells (g := g) hg
  rcases h.2 with ⟨e1, e2⟩ | ⟨g, cap, cur, e1, hb, hg, hcap, hm, hsz, hcur⟩
  · exact .inl ⟨e1, List.eq_nil_of_length_eq_zero e2⟩
  · refine .inr ⟨g, cap, e1, hb, hcap, hm, fun j hj => ⟨?_, by simp [World.frozen?, hg]⟩⟩
    have := hc g (by rw [e1]; rfl) j (fp l[j]) (by simp [hj])
    have ha : (⟨g, 0, none⟩ : Addr).add j = ⟨g, j, none⟩ := by unfold Addr.add; split <;> simp_all
    rwa [ha] at this
theorem index_nil (w : World) (v : Value) : Calls Try.prog 68 #[.slice none 0 0, v] w fun e w' => e = .returned (.int .i64 (-1)) ∧ w = w' := by
  go_enter Try.func68, Try.ntmps68
  go_wp2
  go_loop [8] (fun i => i = .int .i64 0) (fun _ => 0)
  case atStart => rfl
  case round =>
    obtain rfl := hrel
    go_wp2
    go_ret
    exact ⟨rfl, rfl⟩
theorem delete_nil (w : World) (v : Value) : Calls Try.prog 51 #[.slice none 0 0, v] w fun e w' => e = .returned (.slice none 0 0) ∧ w = w' := by
  go_enter Try.func51, Try.ntmps51
  go_wp2_with fail
  refine (index_nil _ _).mono ?_
  rintro e w' ⟨rfl, rfl⟩
  go_wp2
  go_ret
  exact ⟨rfl, rfl⟩
theorem parts_back {w wr : World} (h : Fresh w wr) {f : Nat} (hf : isFile base w f) (hp : parts wr f) : parts w f := by
  obtain ⟨c, x, y, hx, hne⟩ := hp
  refine ⟨c, x, y, ?_, hne⟩
  unfold fileAt at *
  rw [← h.block f hf.lt]; exact hx
theorem torn_end {w wr w1 w2 : World} {g cap : Nat} {l m : List Nat} (h : FsAt base w b s L) (hG : Fresh w wr) (hhas : ∀ f ∈ l, s.has f) (hBg : w.heap.size + 1 ≤ g) (hlen : l.length ≤ s.steps)
    (hml : m.length ≤ l.length) (hm : ∀ f ∈ m, f ∈ l ∧ parts wr f) (hg1 : wr.grownBy w1 (some g)) {e : Ending} (hs : Sorted' w1 g m e w2) : TornIs w s (.returned (.slice (some ⟨g, 0, none⟩) m.length cap)) w2 := by
  obtain ⟨_, m', hl', hin, hrow, hg2⟩ := hs
  refine ⟨?_, .inr ⟨g, cap, m', by rw [hl'], by omega, by omega, hrow, fun f hf => ?_⟩⟩
  · exact ((Below.grown hG hg1 hG.size (fun k e => by cases e; omega))).grown hg2 (Nat.le_trans hG.size hg1.size) (fun k e => by cases e; omega)
  · obtain ⟨hfl, hp⟩ := hm f (hin f hf)
    exact ⟨hhas f hfl, parts_back hG (h.files f (hhas f hfl)) hp⟩
theorem torn_nil (w : World) (s : St) {wr : World} (h : Fresh w wr) : TornIs w s (.returned (.slice none 0 0)) wr := ⟨h, .inl rfl⟩
/-- Where a file is appended: facts of the world there. -/
structure AtFile (B : Nat) (W : World) (v : Value) (l : List Nat) (X f : Nat) : Prop where
  own : W.ownsRow B 63 1 v l.length (l.map fp)
  box : ∀ j u, [fp f][j]? = some u → W.cell? ((⟨X, 0, none⟩ : Addr).add j) = some u
  low : B ≤ W.heap.size
theorem AtFile.mk' {B : Nat} {W : World} {v : Value} {l : List Nat} (f : Nat) (h : W.ownsRow B 63 1 v l.length (l.map fp)) (hb : B ≤ W.heap.size) : AtFile B (W.alloc (.cells #[.pointer (some ⟨f, 0, none⟩)] 63)) v l W.heap.size f :=
  ⟨h.alloc _, World.news_of_block (at_new W (.cells #[.pointer (some ⟨f, 0, none⟩)] 63)), by simp; omega⟩
theorem fp_one (f : Nat) : ∀ u ∈ [fp f], u.oneCell' = true := by
  intro u hu
  simp only [List.mem_singleton] at hu
  subst hu; rfl
set_option maxRecDepth 100000 in
set_option maxHeartbeats 2000000 in
theorem torn_row (h : FsAt base w b s L) (hst : s.steps ≤ 100000) {gw capw : Nat} (hwv : L.wv = .slice (some ⟨gw, 0, none⟩) s.wait.length capw) (_hcap : s.wait.length ≤ capw) (_hcm : capw ≤ maxLen) :
    Calls Try.prog 44 #[.pointer (some ⟨b, 0, none⟩)] w (TornIs w s) := by
  obtain ⟨i0, hi, hz0, hz1, hz2⟩ := info_parts info63
  have hl2 := h.len2
  have c1 := h.cells.2.1
  obtain ⟨D, hown, hD⟩ := h.safe
  have hsz := hown.size_le
  have hbl := hown.lt
  have HO := Lib.hid hown
  have HD := Lib.hid hD
  have HH := Lib.hid h
  have HW := Lib.hid hwv
  clear h hwv hown hD
  go_enter Try.func44, Try.ntmps44
  go_wp2_with (first
    | (at_range; refine wpList_range_own _ rfl _ 50 rfl 9 63 law9 Try.underlying50 _ L.bs L.ns _ rfl HO.out ?_; intro w0 hrg0 hg0 hs0)
    | go_in)
  go_frame
  go_loopw [3] (fun v wr => Loop1 w s L D v wr) (fun _ wr => wr.rangeLeft L.bs w.heap.size)
  case atStart => exact ⟨[], _, _, hrg0, by simp; omega, World.ownsRow_nil _ _ _ _, (fun f hf => by cases hf), (Below.refl _ _).grown hg0 (Nat.le_refl _) (fun j hj => by cases hj)⟩
  case round =>
    obtain ⟨l, left, cnt, hrg, hcnt, hG⟩ := hrel
    clear hrg0 hg0 hs0
    have HG := Lib.hid hG
    have HRG := Lib.hid hrg
    clear hG hrg
    go_wp2_with (first
      | (at_next; refine wpList_next_dir _ rfl _ rfl L.bs w.heap.size L.ns D s.safe HD.out left cnt rfl HRG.out ?_ ?_)
      | go_in)
    · intro hc0
      have hblk : wr.heap[b]? = _ := HG.out.fresh.at HH.out.blk
      have q2 := cell_of_at hblk (i := 2) rfl
      rw [HW.out] at q2
      have HL2 : Hid (Loop2 w s L 0 u3 wr) := ⟨l, by omega, HG.out⟩
      clear HG HRG hblk hc0 hcnt
      go_wp2
      go_loopw [3, 26] (fun v i wr => ∃ k : Nat, k ≤ s.wait.length ∧ i = .int .i64 k ∧ Loop2 w s L k v wr) (fun _ i _ => s.wait.length - (intOf i).toNat)
      case atStart => exact ⟨0, Nat.zero_le _, rfl, HL2.out⟩
      case round =>
        obtain ⟨k, hk, rfl, l', hl', hG⟩ := hrel
        have hwr : w.heap.size ≤ wr.heap.size := hG.fresh.size
        by_cases hlt : k < s.wait.length
        · obtain ⟨r0, r1, r2⟩ := row_cell (HH.out.move hG.fresh).row HW.out k hlt
          have hhas : s.has s.wait[k].file := .inr (.inr ⟨s.wait[k], List.getElem_mem _, rfl⟩)
          generalize s.wait[k] = d at *
          obtain ⟨src, dst, f⟩ := d
          dsimp only at r0 r1 r2 hhas
          have HHA := Lib.hid hhas
          clear hhas
          by_cases he : src.size = 0
          · obtain rfl := empty_of he
            have hk1 : (wr.alloc (.cells #[.string ⟨#[]⟩, .string dst, .pointer (some ⟨f, 0, none⟩)] 70)).ownsRow (w.heap.size + 1) 63 1 u3 l'.length (l'.map fp) := hG.own.alloc _
            have hsz1 : w.heap.size + 1 ≤ (wr.alloc (.cells #[.string ⟨#[]⟩, .string dst, .pointer (some ⟨f, 0, none⟩)] 70)).heap.size := by simp; omega
            have hA : Hid (AtFile (w.heap.size + 1) ((wr.alloc (.cells #[.string ⟨#[]⟩, .string dst, .pointer (some ⟨f, 0, none⟩)] 70)).alloc (.cells #[.pointer (some ⟨f, 0, none⟩)] 63)) u3 l' (wr.heap.size + 1) f) := by
              have := AtFile.mk' f hk1 hsz1
              rw [World.size_alloc] at this
              exact this
            have HFR := Lib.hid ((hG.fresh.alloc (.cells #[.string ⟨#[]⟩, .string dst, .pointer (some ⟨f, 0, none⟩)] 70)).alloc (.cells #[.pointer (some ⟨f, 0, none⟩)] 63))
            have hm1 : l'.length + 1 ≤ maxLen := by unfold maxLen; omega
            have hm2 : (l'.length + 1) * 8 ≤ 140737488355328 := by omega
            have HG := Lib.hid hG
            clear hG hk1 hsz1 he
            go_wp2_with (first
              | (at_builtin; refine wpList_append_lies _ rfl _ _ 87 rfl (w.heap.size + 1) 63 i0 _ 1 8 Try.underlying87 hi hz0 hz1 hz2 rfl (by decide) u3 l'.length (l'.map fp) rfl hA.out.own ⟨wr.heap.size + 1, 0, none⟩ 1 1 [fp f] rfl rfl hA.out.box (fp_one f) (by decide) hm1 hm2 hA.out.low _ rfl ?_; intro g cap w2 hown2 hgrow2 hat2 hlt2; have HOW := Lib.hid hown2; have HGR := Lib.hid hgrow2; clear hown2 hgrow2 hat2 hlt2)
              | go_in)
            go_roundw
            case rel => exact ⟨k + 1, by omega, by go_num, l' ++ [f], by simp; omega, HG.out.more f HHA.out hA.out.own HFR.out HOW.out HGR.out⟩
            case measure => simp [intOf]; omega
          · have hne := list_ne he
            have HG := Lib.hid hG
            clear hG he
            go_wp2
            go_roundw
            case rel => exact ⟨k + 1, by omega, by go_num, l', by omega, HG.out.own.alloc _, HG.out.has, HG.out.fresh.alloc _⟩
            case measure => simp [intOf]; omega
        · obtain rfl : k = s.wait.length := by omega
          have hlen : l'.length ≤ s.steps := by omega
          rcases own_form hG.own with ⟨rfl, rfl⟩ | ⟨g, cap, rfl, hBg, hlc, hcm, hrow⟩
          · have HG := Lib.hid hG.fresh
            clear hG
            go_wp2_with fail
            refine (delete_nil _ _).mono ?_
            rintro e w1 ⟨rfl, rfl⟩
            go_wp2_with fail
            refine (sort_nil _ _).mono ?_
            rintro e w1 ⟨rfl, rfl⟩
            go_wp2
            go_ret
            exact torn_nil w s HG.out
          · have HG := Lib.hid hG
            have HR := Lib.hid hrow
            clear hG hrow
            go_wp2_with fail
            refine (delete_any g cap l'.length l' rfl (by omega) hlc hcm HR.out (fun f hf => (HH.out.move HG.out.fresh).files f (HG.out.has f hf)) (fun f hf => frow_ne HR.out (List.ne_nil_of_mem hf) f ((HH.out.move HG.out.fresh).files f (HG.out.has f hf)))).mono ?_
            rintro e w1 ⟨m, rfl, hml, hrow1, hm, hg1⟩
            have hfm : ∀ f ∈ m, isFile base w1 f := fun f hf => by
              have h0 := (HH.out.move HG.out.fresh).files f (HG.out.has f (hm f hf).1)
              exact h0.move (hg1.block f h0.lt (by simpa using frow_ne HR.out (List.ne_nil_of_mem (hm f hf).1) f h0))
            have HFM := Lib.hid hfm
            have HR1 := Lib.hid hrow1
            have HM := Lib.hid hm
            have HG1 := Lib.hid hg1
            clear hfm hrow1 hm hg1
            go_wp2_with fail
            refine (sort_any g cap m (by omega) HR1.out HFM.out).mono ?_
            rintro e w2 hs2
            have hE := Lib.hid (torn_end (cap := cap) HH.out HG.out.fresh HG.out.has hBg hlen hml HM.out HG1.out hs2)
            obtain ⟨rfl, _⟩ := hs2
            go_wp2
            go_ret
            exact hE.out
    · intro x f left' w1 cnt1 hm hrg1 hlt hg1 hs1 hen
      have hk1 : w1.ownsRow (w.heap.size + 1) 63 1 u3 l.length (l.map fp) := HG.out.own.kept hg1 (by
        cases hv : u3.ownBlock with
        | none => exact .inl rfl
        | some k => right; intro e; cases e; have := (HG.out.own.lt _ hv).1; omega)
      have hsz1 : w.heap.size + 1 ≤ w1.heap.size := by have := HRG.out.lt; omega
      have hA := Lib.hid (AtFile.mk' f hk1 hsz1)
      have hfr1 : Fresh w w1 := Below.grown HG.out.fresh hg1 HG.out.fresh.size (fun k e => by cases e; exact Nat.le_refl _)
      have HFR := Lib.hid (hfr1.alloc (.cells #[.pointer (some ⟨f, 0, none⟩)] 63))
      have hm1 : l.length + 1 ≤ maxLen := by unfold maxLen; omega
      have hm2 : (l.length + 1) * 8 ≤ 140737488355328 := by omega
      have HM := Lib.hid hm
      have HRG1 := Lib.hid hrg1
      clear hm hrg1 hg1 hk1 hfr1 hs1
      go_wp2_with (first
        | (at_builtin; refine wpList_append_lies _ rfl _ _ 87 rfl (w.heap.size + 1) 63 i0 _ 1 8 Try.underlying87 hi hz0 hz1 hz2 rfl (by decide) u3 l.length (l.map fp) rfl hA.out.own ⟨w1.heap.size, 0, none⟩ 1 1 [fp f] rfl rfl hA.out.box (fp_one f) (by decide) hm1 hm2 hA.out.low _ rfl ?_; intro g cap w2 hown2 hgrow2 hat2 hlt2; have HOW := Lib.hid hown2; have HGR := Lib.hid hgrow2; clear hown2 hgrow2 hat2 hlt2)
        | go_in)
      have hrg2 := (HRG1.out.alloc (.cells #[.pointer (some ⟨f, 0, none⟩)] 63)).kept HGR.out (fun e => by
        have := (hA.out.own.lt L.bs e.symm).1; omega) (fun e => by
        have := (hA.out.own.lt w.heap.size e.symm).1; omega)
      go_roundw
      case rel => exact ⟨l ++ [f], left', cnt1, hrg2, by simp; omega, HG.out.more f (.inr (.inl ⟨x, HM.out⟩)) hA.out.own HFR.out HOW.out HGR.out⟩
      case measure => rw [hrg2.left_eq, HRG.out.left_eq]; exact hlt
set_option maxRecDepth 100000 in
set_option maxHeartbeats 2000000 in
theorem torn_wnil (h : FsAt base w b s L) (hst : s.steps ≤ 100000) (hwv : L.wv = .slice none 0 0) :
    Calls Try.prog 44 #[.pointer (some ⟨b, 0, none⟩)] w (TornIs w s) := by
  obtain ⟨i0, hi, hz0, hz1, hz2⟩ := info_parts info63
  have hl2 := h.len2
  have c1 := h.cells.2.1
  obtain ⟨D, hown, hD⟩ := h.safe
  have hsz := hown.size_le
  have hbl := hown.lt
  have HO := Lib.hid hown
  have HD := Lib.hid hD
  have HH := Lib.hid h
  have HW := Lib.hid hwv
  clear h hwv hown hD
  go_enter Try.func44, Try.ntmps44
  go_wp2_with (first
    | (at_range; refine wpList_range_own _ rfl _ 50 rfl 9 63 law9 Try.underlying50 _ L.bs L.ns _ rfl HO.out ?_; intro w0 hrg0 hg0 hs0)
    | go_in)
  go_frame
  go_loopw [3] (fun v wr => Loop1 w s L D v wr) (fun _ wr => wr.rangeLeft L.bs w.heap.size)
  case atStart => exact ⟨[], _, _, hrg0, by simp; omega, World.ownsRow_nil _ _ _ _, (fun f hf => by cases hf), (Below.refl _ _).grown hg0 (Nat.le_refl _) (fun j hj => by cases hj)⟩
  case round =>
    obtain ⟨l, left, cnt, hrg, hcnt, hG⟩ := hrel
    clear hrg0 hg0 hs0
    have HG := Lib.hid hG
    have HRG := Lib.hid hrg
    clear hG hrg
    go_wp2_with (first
      | (at_next; refine wpList_next_dir _ rfl _ rfl L.bs w.heap.size L.ns D s.safe HD.out left cnt rfl HRG.out ?_ ?_)
      | go_in)
    · intro hc0
      have hblk : wr.heap[b]? = _ := HG.out.fresh.at HH.out.blk
      have q2 := cell_of_at hblk (i := 2) rfl
      rw [HW.out] at q2
      have HL2 : Hid (Loop2 w s L 0 u3 wr) := ⟨l, by omega, HG.out⟩
      clear HG HRG hblk hc0 hcnt
      go_wp2
      go_loopw [3, 26] (fun v i wr => i = .int .i64 0 ∧ Loop2 w s L 0 v wr) (fun _ _ _ => 0)
      case atStart => exact ⟨rfl, HL2.out⟩
      case round =>
        obtain ⟨rfl, l', hl', hG⟩ := hrel
        have hlen : l'.length ≤ s.steps := by omega
        rcases own_form hG.own with ⟨rfl, rfl⟩ | ⟨g, cap, rfl, hBg, hlc, hcm, hrow⟩
        · have HG := Lib.hid hG.fresh
          clear hG
          go_wp2_with fail
          refine (delete_nil _ _).mono ?_
          rintro e w1 ⟨rfl, rfl⟩
          go_wp2_with fail
          refine (sort_nil _ _).mono ?_
          rintro e w1 ⟨rfl, rfl⟩
          go_wp2
          go_ret
          exact torn_nil w s HG.out
        · have HG := Lib.hid hG
          have HR := Lib.hid hrow
          clear hG hrow
          go_wp2_with fail
          refine (delete_any g cap l'.length l' rfl (by omega) hlc hcm HR.out (fun f hf => (HH.out.move HG.out.fresh).files f (HG.out.has f hf)) (fun f hf => frow_ne HR.out (List.ne_nil_of_mem hf) f ((HH.out.move HG.out.fresh).files f (HG.out.has f hf)))).mono ?_
          rintro e w1 ⟨m, rfl, hml, hrow1, hm, hg1⟩
          have hfm : ∀ f ∈ m, isFile base w1 f := fun f hf => by
            have h0 := (HH.out.move HG.out.fresh).files f (HG.out.has f (hm f hf).1)
            exact h0.move (hg1.block f h0.lt (by simpa using frow_ne HR.out (List.ne_nil_of_mem (hm f hf).1) f h0))
          have HFM := Lib.hid hfm
          have HR1 := Lib.hid hrow1
          have HM := Lib.hid hm
          have HG1 := Lib.hid hg1
          clear hfm hrow1 hm hg1
          go_wp2_with fail
          refine (sort_any g cap m (by omega) HR1.out HFM.out).mono ?_
          rintro e w2 hs2
          have hE := Lib.hid (torn_end (cap := cap) HH.out HG.out.fresh HG.out.has hBg hlen hml HM.out HG1.out hs2)
          obtain ⟨rfl, _⟩ := hs2
          go_wp2
          go_ret
          exact hE.out
    · intro x f left' w1 cnt1 hm hrg1 hlt hg1 hs1 hen
      have hk1 : w1.ownsRow (w.heap.size + 1) 63 1 u3 l.length (l.map fp) := HG.out.own.kept hg1 (by
        cases hv : u3.ownBlock with
        | none => exact .inl rfl
        | some k => right; intro e; cases e; have := (HG.out.own.lt _ hv).1; omega)
      have hsz1 : w.heap.size + 1 ≤ w1.heap.size := by have := HRG.out.lt; omega
      have hA := Lib.hid (AtFile.mk' f hk1 hsz1)
      have hfr1 : Fresh w w1 := Below.grown HG.out.fresh hg1 HG.out.fresh.size (fun k e => by cases e; exact Nat.le_refl _)
      have HFR := Lib.hid (hfr1.alloc (.cells #[.pointer (some ⟨f, 0, none⟩)] 63))
      have hm1 : l.length + 1 ≤ maxLen := by unfold maxLen; omega
      have hm2 : (l.length + 1) * 8 ≤ 140737488355328 := by omega
      have HM := Lib.hid hm
      have HRG1 := Lib.hid hrg1
      clear hm hrg1 hg1 hk1 hfr1 hs1
      go_wp2_with (first
        | (at_builtin; refine wpList_append_lies _ rfl _ _ 87 rfl (w.heap.size + 1) 63 i0 _ 1 8 Try.underlying87 hi hz0 hz1 hz2 rfl (by decide) u3 l.length (l.map fp) rfl hA.out.own ⟨w1.heap.size, 0, none⟩ 1 1 [fp f] rfl rfl hA.out.box (fp_one f) (by decide) hm1 hm2 hA.out.low _ rfl ?_; intro g cap w2 hown2 hgrow2 hat2 hlt2; have HOW := Lib.hid hown2; have HGR := Lib.hid hgrow2; clear hown2 hgrow2 hat2 hlt2)
        | go_in)
      have hrg2 := (HRG1.out.alloc (.cells #[.pointer (some ⟨f, 0, none⟩)] 63)).kept HGR.out (fun e => by
        have := (hA.out.own.lt L.bs e.symm).1; omega) (fun e => by
        have := (hA.out.own.lt w.heap.size e.symm).1; omega)
      go_roundw
      case rel => exact ⟨l ++ [f], left', cnt1, hrg2, by simp; omega, HG.out.more f (.inr (.inl ⟨x, HM.out⟩)) hA.out.own HFR.out HOW.out HGR.out⟩
      case measure => rw [hrg2.left_eq, HRG.out.left_eq]; exact hlt
theorem torn_any (h : FsAt base w b s L) (hst : s.steps ≤ 100000) : Calls Try.prog 44 #[.pointer (some ⟨b, 0, none⟩)] w (TornIs w s) := by
  obtain ⟨_, hr⟩ := h.row
  rcases hr with ⟨e1, e2⟩ | ⟨g, cap, cur, e1, _, _, hc, hm, _⟩
  · exact torn_wnil h hst e1
  · exact torn_row h hst e1 hc hm
end Go.Proofs.Ytimcoofmemcojaa

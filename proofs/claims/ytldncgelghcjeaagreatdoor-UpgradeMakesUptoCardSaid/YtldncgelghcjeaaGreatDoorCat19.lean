/-
  A state of version 3 as the document has it, in rows of its own (printed by genof3.py.txt).
  slices.Equal at texts, ports and variables.
  Are two containers alike, by package spec?
-/
import Derived.Test.YtldncgelghcjeaaGreatDoorCat03
import Derived.Test.YtldncgelghcjeaaGreatDoorCat06
import Derived.Test.YtldncgelghcjeaaGreatDoorCat12
import Derived.Test.YtldncgelghcjeaaGreatDoorCat17
import Derived.Test.YtldncgelghcjeaaGreatDoorCat18
import Derived.Test.YtldncgelghcjeaaGreatDoorCat02
import Derived.Deep.QuietTactic
import Derived.BigQuiet
import Derived.Test.YtldncgelghcjeaaGreatDoorCat11
set_option linter.unusedSimpArgs false
set_option linter.unusedVariables false
namespace Go.Proofs.YtldncgelghcjeaaGreatDoor.K
open Go.ChangeShapes Go.WideShapes Go.ChangeAt Go.RowKit
set_option maxRecDepth 100000
set_option linter.unusedSimpArgs false

theorem mixed3o : Tryz.prog.follows .mixedOrders = true := by kernel_rfl
theorem _root_.Go.Proofs.YtldncgelghcjeaaGreatDoor.OAt.fr {w0 W W' : World} {B z : Nat} {S T : TypeId} {q : PM} {cz : Array Value} (h : OAt w0 W B q) (f : Fr z T W W') (hz : W.heap[z]? = some (.cells cz S)) (h1 : 115 ≠ S) (h2 : 117 ≠ S) (h3 : 119 ≠ S) (h4 : 115 ≠ T) (h5 : 117 ≠ T) (h6 : 119 ≠ T) : OAt w0 W' B q :=
  ⟨own_fr h.row f hz (by decide) h1 h4, fun m hm => ⟨(h.ins m hm).cmd, own_fr (h.ins m hm).ports f hz (by decide) h2 h5, own_fr (h.ins m hm).env f hz (by decide) h3 h6⟩⟩
theorem _root_.Go.Proofs.YtldncgelghcjeaaGreatDoor.OAt.mono {w0 W : World} {B B' : Nat} {q : PM} (h : OAt w0 W B q) (hb : B' ≤ B) : OAt w0 W B' q := ⟨World.ownsRow.mono h.row hb, fun m hm => (h.ins m hm).mono hb⟩
/-- What stands while a pod is turned. -/
structure OfB (z y r : Nat) (seq : Int) (pc : Array Value) (o : Option Addr) (k c : Nat) (D : List M3) (w0 W : World) : Prop where
  fr0 : Fresh w0 W
  bx : W.heap[z]? = some (.cells #[.int .u64 seq, .slice o k c] 30)
  py : W.heap[y]? = some (.cells pc 93)
  rz : W.heap[r]? = some (.cells #[.int .u64 0, .slice none 0 0] 30)
  own : W.ownsRow w0.heap.size 48 7 (.slice o k c) k (D.flatMap M3.cells)
  ins : ∀ x ∈ D, OAt w0 W w0.heap.size x.m
section
variable {z y r : Nat} {seq : Int} {pc : Array Value} {o : Option Addr} {k c : Nat} {D : List M3} {w0 W W' : World}
theorem OfB.fresh (h : OfB z y r seq pc o k c D w0 W) (f : Fresh W W') : OfB z y r seq pc o k c D w0 W' :=
  ⟨h.fr0.trans f, f.at h.bx, f.at h.py, f.at h.rz, own_fresh h.own f, fun x hx => (h.ins x hx).fresh f⟩
/-- Behind the append and the store. -/
structure OfA (z y r : Nat) (seq : Int) (o : Option Addr) (k c : Nat) (D : List M3) (x : M3) (w0 W2 w3 : World) (g cap : Nat) : Prop where
  bx : w3.heap[z]? = some (.cells #[.int .u64 seq, .slice o k c] 30)
  put : (w3.setCell ⟨z, 1, none⟩ (.slice (some ⟨g, 0, none⟩) (k + 1) cap)).heap[z]? = some (.cells #[.int .u64 seq, .slice (some ⟨g, 0, none⟩) (k + 1) cap] 30)
  rz : (w3.setCell ⟨z, 1, none⟩ (.slice (some ⟨g, 0, none⟩) (k + 1) cap)).heap[r]? = some (.cells #[.int .u64 0, .slice none 0 0] 30)
  own : (w3.setCell ⟨z, 1, none⟩ (.slice (some ⟨g, 0, none⟩) (k + 1) cap)).ownsRow w0.heap.size 48 7 (.slice (some ⟨g, 0, none⟩) (k + 1) cap) (k + 1) ((D ++ [x]).flatMap M3.cells)
  ins : ∀ x' ∈ D ++ [x], OAt w0 (w3.setCell ⟨z, 1, none⟩ (.slice (some ⟨g, 0, none⟩) (k + 1) cap)) w0.heap.size x'.m
  fr0 : Fresh w0 (w3.setCell ⟨z, 1, none⟩ (.slice (some ⟨g, 0, none⟩) (k + 1) cap))
theorem of_app (h : OfB z y r seq pc o k c D w0 W) (x : M3) (hx : OAt w0 W w0.heap.size x.m) (hzw : w0.heap.size ≤ z) (hrz : r ≠ z) (hk : k ≤ 4000000) :
    ∃ g cap w3, (Builtin.append_ #[28, 28] 28 #[.slice o k c, .slice (some ⟨W.heap.size, 0, none⟩) 1 1]).run Tryz.prog (W.alloc (.cells x.cells.toArray 48)) = .ok (.slice (some ⟨g, 0, none⟩) (k + 1) cap) w3 ∧ OfA z y r seq o k c D x w0 W w3 g cap := by
  obtain ⟨i0, hi, hz0, hz1, hz2⟩ := info_parts infoRP3
  have hs2 := h.fr0.size
  obtain ⟨v', w3, hr, hown', hgrow, _⟩ := run_append_own (P := Tryz.prog) (w := W.alloc (.cells x.cells.toArray 48)) w0.heap.size 28 28 48 i0 _ 7 96 Tryz.underlying28 hi hz0 hz1 hz2 rfl (by decide) (.slice o k c) k (D.flatMap M3.cells) (World.ownsRow.alloc h.own _) ⟨W.heap.size, 0, none⟩ 1 1 x.cells rfl
    (fun j u hj => by rw [addr_add0]; exact cell_of_at (at_new W (.cells x.cells.toArray 48)) (by simpa using hj)) (by simp [M3.cells, Value.oneCell']) (by unfold maxLen; omega) (by omega) (by rw [World.size_alloc]; omega)
  obtain ⟨g', cap', rfl⟩ := ownsRow_succ hown'
  have keep : ∀ (j : Nat) (cs : Array Value) (t : TypeId) (fz : Nat × Nat), W.heap[j]? = some (.cells cs t fz) → t ≠ 48 → w3.heap[j]? = some (.cells cs t fz) := fun j cs t fz hj n2 => (hgrow.block j (by rw [World.size_alloc]; have := lt_of_at hj; omega) (fun e2 => by
    rcases h.own.2 with ⟨h, _⟩ | ⟨g, cap, cur, h, _, hg, _⟩
    · rw [h] at e2; cases e2
    · rw [h] at e2
      have : j = g := by simpa [Value.ownBlock] using e2
      subst this
      rw [hg] at hj
      cases hj
      exact n2 rfl)).trans (at_alloc hj)
  have hz3 := keep _ _ _ _ h.bx (by decide)
  have f3 : Fr z 48 W (w3.setCell ⟨z, 1, none⟩ (.slice (some ⟨g', 0, none⟩) (k + 1) cap')) := fun j cs t fz hj _ n1 n2 => at_off (keep j cs t fz hj n2) n1 _
  refine ⟨g', cap', w3, hr, hz3, at_set hz3 1 _, at_off (keep _ _ _ _ h.rz (by decide)) hrz _, ?_, fun x' hx' => ?_, ?_⟩
  · have e : (D ++ [x]).flatMap M3.cells = D.flatMap M3.cells ++ x.cells := by simp
    rw [e]
    exact own_type hown' hz3 (by decide) 1 _
  · have hy : OAt w0 W w0.heap.size x'.m := by
      rcases List.mem_append.1 hx' with h2 | h2
      · exact h.ins _ h2
      · simp at h2; subst h2; exact hx
    exact hy.fr f3 h.bx (by decide) (by decide) (by decide) (by decide) (by decide) (by decide)
  · exact ((h.fr0.alloc (.cells x.cells.toArray 48)).grown hgrow (fun g e => (World.ownsRow.lt h.own g e).1)).setCell (p := ⟨z, 1, none⟩) hzw _
/-- The phases. -/
def OfI (z y r : Nat) (seq : Int) (p : M3) (o : Option Addr) (k c : Nat) (D : List M3) (w0 : World) : List Value → World → Prop
  | [], W => OfB z y r seq p.cells.toArray o k c D w0 W
  | [y0], W => ∃ q : PM, y0 = q.val ∧ q.pd = p.m.pd ∧ OAt w0 W w0.heap.size q ∧ OfB z y r seq p.cells.toArray o k c D w0 W
  | [y0, y1], W => ∃ q : PM, y0 = q.val ∧ q.pd = p.m.pd ∧ OAt w0 W w0.heap.size q ∧ OfB z y r seq p.cells.toArray o k c D w0 W ∧ y1 = M3.flat ⟨p.file, q⟩
  | [_, _, y2], W => ∃ (q : PM) (W2 : World), q.pd = p.m.pd ∧ OAt w0 W2 w0.heap.size q ∧ OfB z y r seq p.cells.toArray o k c D w0 W2 ∧ W = W2.alloc (.cells (M3.cells ⟨p.file, q⟩).toArray 48) ∧ y2 = .slice (some ⟨W2.heap.size, 0, none⟩) 1 1
  | [_, _, _, y3], W => ∃ (q : PM) (W2 : World) (g cap : Nat), q.pd = p.m.pd ∧ y3 = .slice (some ⟨g, 0, none⟩) (k + 1) cap ∧ OfA z y r seq o k c D ⟨p.file, q⟩ w0 W2 W g cap
  | [_, _, _, _, _], W => ∃ (q : PM) (W2 w3 : World) (g cap : Nat), q.pd = p.m.pd ∧ OfA z y r seq o k c D ⟨p.file, q⟩ w0 W2 w3 g cap ∧ W = w3.setCell ⟨z, 1, none⟩ (.slice (some ⟨g, 0, none⟩) (k + 1) cap)
  | _, _ => False
theorem OfI.bx {p : M3} : ∀ {h : List Value}, OfI z y r seq p o k c D w0 h W → h.length ≤ 3 → W.heap[z]? = some (.cells #[.int .u64 seq, .slice o k c] 30) ∧ W.heap[y]? = some (.cells p.cells.toArray 93)
  | [], h, _ => ⟨OfB.bx h, OfB.py h⟩
  | [_], h, _ => by
    obtain ⟨q, _, _, _, hB⟩ := h
    exact ⟨hB.bx, hB.py⟩
  | [_, _], h, _ => by
    obtain ⟨q, _, _, _, hB, _⟩ := h
    exact ⟨hB.bx, hB.py⟩
  | [_, _, _], h, _ => by
    obtain ⟨q, W2, _, _, hB, rfl, _⟩ := h
    exact ⟨at_alloc hB.bx, at_alloc hB.py⟩
  | _ :: _ :: _ :: _ :: _, _, hl => by simp at hl
end
attribute [-go_sem] Go.Builtin.append_
set_option maxHeartbeats 16000000 in
theorem of3_any (seq : Int) (a : Option Addr) (l : List M3) (c : Nat) (w : World) (h : Row3 w a l) (hl : l.length ≤ 4000000) (hlo : ∀ x ∈ l, x.m.Low) :
    Calls Tryz.prog 11 #[st3 seq a l.length c] w fun r w' => ∃ a' c', ∃ D : List M3, r = .returned (st3 seq a' D.length c') ∧ pods3 D = pods3 l ∧ Row3 w' a' D ∧ Fresh w w' := by
  have HROW := Lib.hid h
  have HLO := Lib.hid hlo
  have hW := at_alloc (p := .cells #[.int .u64 seq, .slice none 0 0] 30) (by have := at_new (w.alloc (.cells #[.int .u64 seq, .slice a l.length c] 25)) (.cells #[.int .u64 0, .slice none 0 0] 30); rw [World.size_alloc] at this; exact this)
  have hZ := at_new ((w.alloc (.cells #[.int .u64 seq, .slice a l.length c] 25)).alloc (.cells #[.int .u64 0, .slice none 0 0] 30)) (.cells #[.int .u64 seq, .slice none 0 0] 30)
  rw [World.size_alloc, World.size_alloc] at hZ
  have HF0 := Lib.hid ((((Fresh.refl w).alloc (.cells #[.int .u64 seq, .slice a l.length c] 25)).alloc (.cells #[.int .u64 0, .slice none 0 0] 30)).alloc (.cells #[.int .u64 seq, .slice none 0 0] 30))
  have HR := Lib.hid hW
  have HZ := Lib.hid hZ
  dsimp only [st3]
  clear h hlo hW hZ
  go_enter Tryz.func11, Tryz.ntmps11
  go_wp2
  generalize ((w.alloc (.cells #[.int .u64 seq, .slice a l.length c] 25)).alloc (.cells #[.int .u64 0, .slice none 0 0] 30)).alloc (.cells #[.int .u64 seq, .slice none 0 0] 30) = W0 at *
  obtain ⟨b, hb⟩ : ∃ b, b = w.heap.size := ⟨_, rfl⟩
  obtain ⟨r, hr⟩ : ∃ r, r = w.heap.size + 1 := ⟨_, rfl⟩
  obtain ⟨z, hz⟩ : ∃ z, z = w.heap.size + 2 := ⟨_, rfl⟩
  have hrz : r ≠ z := by omega
  have hzw : w.heap.size ≤ z := by omega
  have hrw : w.heap.size ≤ r := by omega
  rw [← hr] at HR
  rw [← hz] at HZ
  rw [← hz, ← hr, ← hb]
  clear hb hr hz
  go_loopw [12] (fun a12 wr => ∃ (k : Nat) (o : Option Addr) (cp : Nat) (D : List M3), a12 = .int .i64 (k : Int) ∧ k ≤ l.length ∧ Hid (D.length = k) ∧ Hid (pods3 D = (pods3 l).take k) ∧ Hid (wr.heap[z]? = some (.cells #[.int .u64 seq, .slice o k cp] 30)) ∧
    Hid (wr.heap[r]? = some (.cells #[.int .u64 0, .slice none 0 0] 30)) ∧ Hid (wr.ownsRow w.heap.size 48 7 (.slice o k cp) k (D.flatMap M3.cells)) ∧ Hid (∀ x ∈ D, OAt w wr w.heap.size x.m) ∧ Hid (Fresh w wr)) (fun a12 _ => l.length - (intOf a12).toNat)
  case atStart => exact ⟨0, none, 0, [], rfl, Nat.zero_le _, rfl, rfl, HZ.out, HR.out, World.ownsRow_nil _ _ _ _, (fun x hx => absurd hx List.not_mem_nil), HF0.out⟩
  case round =>
  clear HZ HR
  obtain ⟨k, o, cp, D, rfl, hk, HD, HPD, HZ, HR, HOW, HIN, HF⟩ := hrel
  by_cases hlt : k < l.length
  case pos =>
    have hR := HROW.out.move HF.out
    obtain ⟨gb, o1, rfl, hc⟩ := m3_form hR.row hlt
    obtain ⟨c0, c1, c2, c3, c4, c5, c6⟩ := hc k hlt
    have HX := Lib.hid (HROW.out.ins _ (List.getElem_mem hlt))
    have HXL := Lib.hid (HLO.out _ (List.getElem_mem hlt))
    have HTK : Hid ((pods3 l).take (k + 1) = (pods3 l).take k ++ [l[k].p]) := by
      have hkp : k < (pods3 l).length := by rw [pods3_length]; exact hlt
      rw [Hid, List.take_succ_eq_append_getElem hkp, pods3_get hlt hkp]
    clear hc hR
    generalize l[k] = x at *
    obtain ⟨file, ⟨name, ns, rs, gr, ho, ca, cap, cs⟩⟩ := x
    dsimp only at c0 c1 c2 c3 c4 c5 c6
    generalize hn : l.length = n at *
    have HB := Lib.hid (OfB.mk (z := z) (r := r) (w0 := w) (HF.out.alloc (.cells (M3.cells ⟨file, ⟨name, ns, rs, gr, ho, ca, cap, cs⟩⟩).toArray 93)) (at_alloc HZ.out) (at_new wr _) (at_alloc HR.out) (own_fresh HOW.out ((Fresh.refl wr).alloc _)) (fun x hx => (HIN.out x hx).fresh ((Fresh.refl wr).alloc _)))
    have hyz : wr.heap.size ≠ z := by have := lt_of_at HZ.out; omega
    have HB : Hid (OfB z wr.heap.size r seq (M3.cells ⟨file, ⟨name, ns, rs, gr, ho, ca, cap, cs⟩⟩).toArray o k cp D w (wr.alloc (.cells #[.string file, .string name, .string ns, .int .i64 rs, .int .i64 gr, .bool ho, .slice ca cs.length cap] 93)).drew) := HB.out.fresh (Fresh.refl _).drew
    clear HZ HR HOW HIN
    go_upto_region 5 with (fail)
    all_goals try (exfalso; omega)
    obtain ⟨y, hy⟩ : ∃ y, y = wr.heap.size := ⟨_, rfl⟩
    rw [← hy] at HB ⊢
    clear hy hyz c0 c1 c2 c3 c4 c5 c6
    rename_i KK hKK
    refine chain_region [6, 7, 8, 9, 11] [some (Value.pointer (some ⟨z, 1, none⟩)), some (Value.slice o k cp), some (Value.pointer (some ⟨y, 0, none⟩)), some (Value.string file), some (Value.pointer (some ⟨y, 1, none⟩)), some (Value.agg #[.string name, .string ns, .int .i64 rs, .int .i64 gr, .bool ho, .slice ca cs.length cap]), none, none, none, none, some (Value.pointer (some ⟨z, 1, none⟩)), none] (OfI z y r seq ⟨file, ⟨name, ns, rs, gr, ho, ca, cap, cs⟩⟩ o k cp D w) mixed3o (n := 29) rfl (by decide +kernel) (ms := [true, true, true, true, true, true, false, false, false, false, true, false]) rfl (by decide +kernel) (HB.out) ⟨?_, ?_, ?_, ?_, ?_, ?_, ?_, ?_, ?_, ?_, ?_, ?_, trivial⟩ ?_
    · intro h a W hI hlo hhi hpos hvw hvr hst
      have g3 := ev_get (show a.eval (.tmp 3) = Value.pointer (some ⟨z, 0, none⟩) from hst 3 (by decide +kernel))
      show (execOp a.eval _).run _ W = .ok (.value (Value.pointer (some ⟨z, 1, none⟩))) W
      simp [execOp, g3, go_sem]
    · intro h a W hI hlo hhi hpos hvw hvr hst
      have g16 := ev_get (show a.eval (.tmp 16) = Value.pointer (some ⟨z, 1, none⟩) from hvr 0 16 _ (by decide +kernel) rfl rfl)
      have q := OfI.bx hI (Nat.le_trans (hhi 3 9 rfl (by decide +kernel)) (by decide))
      have cq := cell_of_at q.1 (i := 1) rfl
      show (execOp a.eval _).run _ W = .ok (.value (Value.slice o k cp)) W
      simp [execOp, g16, go_sem, cq]
    · intro h a W hI hlo hhi hpos hvw hvr hst
      have g5 := ev_get (show a.eval (.tmp 5) = Value.pointer (some ⟨y, 0, none⟩) from hst 5 (by decide +kernel))
      show (execOp a.eval _).run _ W = .ok (.value (Value.pointer (some ⟨y, 0, none⟩))) W
      simp [execOp, g5, go_sem]
    · intro h a W hI hlo hhi hpos hvw hvr hst
      have g18 := ev_get (show a.eval (.tmp 18) = Value.pointer (some ⟨y, 0, none⟩) from hvr 2 18 _ (by decide +kernel) rfl rfl)
      have q := OfI.bx hI (Nat.le_trans (hhi 1 7 rfl (by decide +kernel)) (by decide))
      have cq : World.cell? _ ⟨y, 0, none⟩ = some (.string file) := cell_of_at q.2 rfl
      show (execOp a.eval _).run _ W = .ok (.value (Value.string file)) W
      simp [execOp, g18, go_sem, cq]
    · intro h a W hI hlo hhi hpos hvw hvr hst
      have g5 := ev_get (show a.eval (.tmp 5) = Value.pointer (some ⟨y, 0, none⟩) from hst 5 (by decide +kernel))
      show (execOp a.eval _).run _ W = .ok (.value (Value.pointer (some ⟨y, 1, none⟩))) W
      simp [execOp, g5, go_sem]
    · intro h a W hI hlo hhi hpos hvw hvr hst
      have g20 := ev_get (show a.eval (.tmp 20) = Value.pointer (some ⟨y, 1, none⟩) from hvr 4 20 _ (by decide +kernel) rfl rfl)
      have q := OfI.bx hI (Nat.le_trans (hhi 0 6 rfl (by decide +kernel)) (by decide))
      have c1 : World.cell? _ ⟨y, 1, none⟩ = some (.string name) := cell_of_at q.2 rfl
      have c2 : World.cell? _ ⟨y, 2, none⟩ = some (.string ns) := cell_of_at q.2 rfl
      have c3 : World.cell? _ ⟨y, 3, none⟩ = some (.int .i64 rs) := cell_of_at q.2 rfl
      have c4 : World.cell? _ ⟨y, 4, none⟩ = some (.int .i64 gr) := cell_of_at q.2 rfl
      have c5 : World.cell? _ ⟨y, 5, none⟩ = some (.bool ho) := cell_of_at q.2 rfl
      have c6 : World.cell? _ ⟨y, 6, none⟩ = some (.slice ca cs.length cap) := cell_of_at q.2 rfl
      show (execOp a.eval _).run _ W = .ok (.value (Value.agg #[.string name, .string ns, .int .i64 rs, .int .i64 gr, .bool ho, .slice ca cs.length cap])) W
      simp [execOp, g20, go_sem, c1, c2, c3, c4, c5, c6]
    · intro h a W hI hlo hhi hpos hvw hvr hst
      obtain rfl := lst0 (hpos 0 rfl)
      have g21 := ev_get (show a.eval (.tmp 21) = Value.agg #[.string name, .string ns, .int .i64 rs, .int .i64 gr, .bool ho, .slice ca cs.length cap] from hvr 5 21 _ (by decide +kernel) rfl rfl)
      have hB : OfB z y r seq (M3.cells ⟨file, ⟨name, ns, rs, gr, ho, ca, cap, cs⟩⟩).toArray o k cp D w W := hI
      refine .inr (.inr ⟨19, #[Value.agg #[.string name, .string ns, .int .i64 rs, .int .i64 gr, .bool ho, .slice ca cs.length cap]], by simp [execOp, g21, go_sem], (of_own (⟨name, ns, rs, gr, ho, ca, cap, cs⟩ : PM) w W HX.out hB.fr0 HXL.out).mono ?_⟩)
      rintro e V ⟨q, rfl, hq, ho, hf⟩
      exact ⟨_, rfl, q, rfl, hq, ho.mono hB.fr0.size, hB.fresh hf⟩
    · intro h a W hI hlo hhi hpos hvw hvr hst
      obtain ⟨y0, rfl⟩ := lst1 (hpos 1 rfl)
      have g19 := ev_get (show a.eval (.tmp 19) = Value.string file from hvr 3 19 _ (by decide +kernel) rfl rfl)
      have g22 := ev_get (hvw 0 6 22 y0 rfl rfl rfl)
      obtain ⟨q, rfl, hq, ho, hB⟩ : ∃ q : PM, y0 = q.val ∧ q.pd = PM.pd (⟨name, ns, rs, gr, ho, ca, cap, cs⟩ : PM) ∧ OAt w W w.heap.size q ∧ OfB z y r seq (M3.cells ⟨file, ⟨name, ns, rs, gr, ho, ca, cap, cs⟩⟩).toArray o k cp D w W := hI
      exact .inl ⟨M3.flat ⟨file, q⟩, W, by simp [execOp, g19, g22, go_sem, M3.flat, PM.val], q, rfl, hq, ho, hB, rfl⟩
    · intro h a W hI hlo hhi hpos hvw hvr hst
      obtain ⟨y0, y1, rfl⟩ := lst2 (hpos 2 rfl)
      have g23 := ev_get (hvw 1 7 23 y1 rfl rfl rfl)
      obtain ⟨q, rfl, hq, ho, hB, rfl⟩ : ∃ q : PM, y0 = q.val ∧ q.pd = PM.pd (⟨name, ns, rs, gr, ho, ca, cap, cs⟩ : PM) ∧ OAt w W w.heap.size q ∧ OfB z y r seq (M3.cells ⟨file, ⟨name, ns, rs, gr, ho, ca, cap, cs⟩⟩).toArray o k cp D w W ∧ y1 = M3.flat ⟨file, q⟩ := hI
      exact .inl ⟨.slice (some ⟨W.heap.size, 0, none⟩) 1 1, W.alloc (.cells (M3.cells ⟨file, q⟩).toArray 48), by simp [execOp, g23, go_sem, M3.flat, M3.cells], q, W, hq, ho, hB, rfl, rfl⟩
    · intro h a W hI hlo hhi hpos hvw hvr hst
      obtain ⟨y0, y1, y2, rfl⟩ := lst3 (hpos 3 rfl)
      have g17 := ev_get (show a.eval (.tmp 17) = Value.slice o k cp from hvr 1 17 _ (by decide +kernel) rfl rfl)
      have g24 := ev_get (hvw 2 8 24 y2 rfl rfl rfl)
      obtain ⟨q, W2, hq, ho, hB, rfl, rfl⟩ : ∃ (q : PM) (W2 : World), q.pd = PM.pd (⟨name, ns, rs, gr, ho, ca, cap, cs⟩ : PM) ∧ OAt w W2 w.heap.size q ∧ OfB z y r seq (M3.cells ⟨file, ⟨name, ns, rs, gr, ho, ca, cap, cs⟩⟩).toArray o k cp D w W2 ∧ W = W2.alloc (.cells (M3.cells ⟨file, q⟩).toArray 48) ∧ y2 = .slice (some ⟨W2.heap.size, 0, none⟩) 1 1 := hI
      obtain ⟨g, cap', w3, hrun, hA⟩ := of_app hB ⟨file, q⟩ ho hzw hrz (by omega)
      exact .inl ⟨_, w3, by simp [execOp, g17, g24, go_sem, hrun], q, W2, g, cap', hq, rfl, hA⟩
    · intro h a W hI hlo hhi hpos hvw hvr hst
      have g3 := ev_get (show a.eval (.tmp 3) = Value.pointer (some ⟨z, 0, none⟩) from hst 3 (by decide +kernel))
      show (execOp a.eval _).run _ W = .ok (.value (Value.pointer (some ⟨z, 1, none⟩))) W
      simp [execOp, g3, go_sem]
    · intro h a W hI hlo hhi hpos hvw hvr hst
      obtain ⟨y0, y1, y2, y3, rfl⟩ := lst4 (hpos 4 rfl)
      have g25 := ev_get (hvw 3 9 25 y3 rfl rfl rfl)
      have g26 := ev_get (show a.eval (.tmp 26) = Value.pointer (some ⟨z, 1, none⟩) from hvr 10 26 _ (by decide +kernel) rfl rfl)
      obtain ⟨q, W2, g, cap', hq, rfl, hA⟩ : ∃ (q : PM) (W2 : World) (g cap' : Nat), q.pd = PM.pd (⟨name, ns, rs, gr, ho, ca, cap, cs⟩ : PM) ∧ y3 = .slice (some ⟨g, 0, none⟩) (k + 1) cap' ∧ OfA z y r seq o k cp D ⟨file, q⟩ w W2 W g cap' := hI
      have cq := cell_of_at hA.bx (i := 1) rfl
      have f := frozen_of_at hA.bx 1
      exact .inr (.inl ⟨_, rfl, by simp [execOp, g25, g26, go_sem, cq, f], q, W2, W, g, cap', hq, hA, rfl⟩)
    intro h a W hh hl
    obtain ⟨y0, y1, y2, y3, y4, rfl⟩ := lst5 hl
    obtain ⟨q, W2, w3, g, cap', hq, hA, rfl⟩ : ∃ (q : PM) (W2 w3 : World) (g cap' : Nat), q.pd = PM.pd (⟨name, ns, rs, gr, ho, ca, cap, cs⟩ : PM) ∧ OfA z y r seq o k cp D ⟨file, q⟩ w W2 w3 g cap' ∧ W = w3.setCell ⟨z, 1, none⟩ (.slice (some ⟨g, 0, none⟩) (k + 1) cap') := hh.inv
    have ha := act_lit (n := 29) (by rw [hh.size]; rfl) hh.defers
    have k0 : a.eval (.tmp 0) = Value.agg #[.int .u64 seq, .slice (some ⟨gb, o1, none⟩) n c] := hh.keep 0 (by decide +kernel)
    have k1 : a.eval (.tmp 1) = Value.pointer (some ⟨b, 0, none⟩) := hh.keep 1 (by decide +kernel)
    have k2 : a.eval (.tmp 2) = Value.pointer (some ⟨r, 0, none⟩) := hh.keep 2 (by decide +kernel)
    have k3 : a.eval (.tmp 3) = Value.pointer (some ⟨z, 0, none⟩) := hh.keep 3 (by decide +kernel)
    have k4 : a.eval (.tmp 4) = undef := hh.keep 4 (by decide +kernel)
    have k6 : a.eval (.tmp 6) = Value.pointer (some ⟨b, 0, none⟩) := hh.keep 6 (by decide +kernel)
    have k7 : a.eval (.tmp 7) = Value.int .u64 seq := hh.keep 7 (by decide +kernel)
    have k8 : a.eval (.tmp 8) = Value.agg #[.int .u64 seq, .slice none 0 0] := hh.keep 8 (by decide +kernel)
    have k9 : a.eval (.tmp 9) = Value.pointer (some ⟨b, 1, none⟩) := hh.keep 9 (by decide +kernel)
    have k10 : a.eval (.tmp 10) = Value.slice (some ⟨gb, o1, none⟩) n c := hh.keep 10 (by decide +kernel)
    have k11 : a.eval (.tmp 11) = Value.int .i64 (n : Int) := hh.keep 11 (by decide +kernel)
    have k12 : a.eval (.tmp 12) = Value.int .i64 (k : Int) := hh.keep 12 (by decide +kernel)
    have k28 : a.eval (.tmp 28) = undef := hh.keep 28 (by decide +kernel)
    simp only [List.range, List.range.loop, List.map_cons, List.map_nil, k0, k1, k2, k3, k4, k6, k7, k8, k9, k10, k11, k12, k28] at ha
    clear k0 k1 k2 k3 k4 k6 k7 k8 k9 k10 k11 k12 k28
    generalize a.eval (.tmp 5) = v5 at ha
    generalize a.eval (.tmp 13) = v13 at ha
    generalize a.eval (.tmp 14) = v14 at ha
    generalize a.eval (.tmp 15) = v15 at ha
    generalize a.eval (.tmp 16) = v16 at ha
    generalize a.eval (.tmp 17) = v17 at ha
    generalize a.eval (.tmp 18) = v18 at ha
    generalize a.eval (.tmp 19) = v19 at ha
    generalize a.eval (.tmp 20) = v20 at ha
    generalize a.eval (.tmp 21) = v21 at ha
    generalize a.eval (.tmp 22) = v22 at ha
    generalize a.eval (.tmp 23) = v23 at ha
    generalize a.eval (.tmp 24) = v24 at ha
    generalize a.eval (.tmp 25) = v25 at ha
    generalize a.eval (.tmp 26) = v26 at ha
    generalize a.eval (.tmp 27) = v27 at ha
    clear hh
    subst ha
    have HA := Lib.hid hA
    have HQ := Lib.hid hq
    clear hA hq
    refine hKK _ _ ?_
    go_wp2
    go_roundw
    case rel => exact ⟨k + 1, some ⟨g, 0, none⟩, cap', D ++ ([⟨file, q⟩] : List M3), by simp, by omega, by rw [Hid, List.length_append, HD.out]; rfl, by rw [Hid, pods3_snoc, HPD.out, HTK.out, M3.p, HQ.out]; rfl, HA.out.put, HA.out.rz, HA.out.own, HA.out.ins, HA.out.fr0⟩
    case measure => simp [intOf]; omega
  case neg =>
  obtain rfl : k = l.length := by omega
  have HPE : Hid (pods3 D = pods3 l) := by rw [Hid, HPD.out, List.take_of_length_le (by simp [pods3])]
  have HDE : Hid (D.length = l.length) := HD.out
  have d0 := cell_of_at HZ.out (i := 0) rfl
  have d1 := cell_of_at HZ.out (i := 1) rfl
  have g0 := cell_of_at HR.out (i := 0) rfl
  have g1 := cell_of_at HR.out (i := 1) rfl
  have f0 := frozen_of_at HR.out 0
  have f1 := frozen_of_at HR.out 1
  go_wp2
  all_goals try (exfalso; omega)
  refine bodyPost_ret (v := .agg #[.int .u64 seq, .slice o l.length cp]) (by simp [results, Tryz.results11, go_sem, *]) rfl ⟨o, cp, D, by rw [HDE.out], HPE.out, ⟨?_, fun m hm => ?_⟩, ?_⟩
  · exact RowAt.owns (own_type (own_type HOW.out HR.out (by decide) 0 _) (at_set HR.out 0 _) (by decide) 1 _)
  · exact (((HIN.out m hm).setType HR.out (by decide) (by decide) (by decide) 0 _).setType (at_set HR.out 0 _) (by decide) (by decide) (by decide) 1 _).at ((HF.out.setCell (p := ⟨r, 0, none⟩) hrw _).setCell (p := ⟨r, 1, none⟩) hrw _)
  · exact (HF.out.setCell (p := ⟨r, 0, none⟩) hrw _).setCell (p := ⟨r, 1, none⟩) hrw _
end Go.Proofs.YtldncgelghcjeaaGreatDoor.K
namespace Go.Proofs.YtldncgelghcjeaaGreatDoor
open Go.ChangeShapes Go.WideShapes Go.ChangeAt Go.RowKit
set_option maxRecDepth 100000 in
set_option maxHeartbeats 1000000 in
theorem eqT_any (l m : List ByteArray) (a b : Option Addr) (ca cb : Nat) (w : World) (ha : RowAt w a (tcells l)) (hb : RowAt w b (tcells m)) (hl : l.length ≤ 4000000) (hm : m.length ≤ 4000000) :
    Calls Tryz.prog 133 #[.slice a l.length ca, .slice b m.length cb] w fun e w' => e = .returned (.bool (decide (l = m))) ∧ Fresh w w' := by
  by_cases hlen : l.length = m.length
  · have HA := Lib.hid ha
    have HB := Lib.hid hb
    have HLEN := Lib.hid hlen
    clear ha hb
    rw [← hlen]
    clear hlen
    go_enter Tryz.func133, Tryz.ntmps133
    go_wp2
    all_goals try (exfalso; omega)
    go_loopw [13] (fun a13 wr => ∃ (k : Nat), a13 = .int .i64 (k : Int) ∧ k ≤ l.length ∧ Hid (Fresh w wr) ∧ Hid (∀ j (h1 : j < l.length) (h2 : j < m.length), j < k → l[j] = m[j])) (fun a13 _ => l.length - (intOf a13).toNat)
    case atStart => exact ⟨0, rfl, Nat.zero_le _, Fresh.refl _, fun _ _ _ h => absurd h (Nat.not_lt_zero _)⟩
    case round =>
      obtain ⟨k, rfl, hk, HF, HE⟩ := hrel
      by_cases hlt : k < l.length
      · have hlt2 : k < m.length := by rw [← HLEN.out]; exact hlt
        obtain ⟨g1, o1, rfl, hc1⟩ := trow_form (HA.out.move HF.out) hlt
        obtain ⟨g2, o2, rfl, hc2⟩ := trow_form (HB.out.move HF.out) hlt2
        have c1 := hc1 k hlt
        have c2 := hc2 k hlt2
        clear hc1 hc2
        have HNO : Hid (l[k] ≠ m[k] → decide (l = m) = false) := fun h => by
          rw [decide_eq_false_iff_not]
          intro e
          subst e
          exact h rfl
        have HYES : Hid (l[k] = m[k] → ∀ j (h1 : j < l.length) (h2 : j < m.length), j < k + 1 → l[j] = m[j]) := fun h j h1 h2 hj => by
          rcases Nat.lt_or_ge j k with h3 | h3
          · exact HE.out j h1 h2 h3
          · obtain rfl : j = k := by omega
            exact h
        generalize l[k] = x at *
        generalize m[k] = y at *
        by_cases hxy : x = y
        · have HY2 := Lib.hid (HYES.out hxy)
          clear HYES HNO
          subst hxy
          go_wp2_with (fail)
          go_quiet (fail)
          go_wp2
          all_goals try (exfalso; omega)
          go_roundw
          case rel => exact ⟨k + 1, by simp, by omega, HF.out.trans (fresh_drewN _ _), HY2.out⟩
          case measure => simp [intOf]; omega
        · have HN2 := Lib.hid (HNO.out hxy)
          clear HYES HNO
          have e0 := tl_ne hxy
          go_wp2_with (fail)
          go_quiet (fail)
          go_wp2
          all_goals try (exfalso; omega)
          go_ret
          exact ⟨ret_bool HN2.out.symm, HF.out.trans (fresh_drewN _ _)⟩
      · obtain rfl : k = l.length := by omega
        have HR : Hid (decide (l = m) = true) := by
          rw [Hid, decide_eq_true_eq]
          exact lists_eq HLEN.out (fun j h1 h2 => HE.out j h1 h2 h1)
        go_wp2
        all_goals try (exfalso; omega)
        go_ret
        exact ⟨ret_bool HR.out.symm, HF.out⟩
  · have HR : Hid (decide (l = m) = false) := by
      rw [Hid, decide_eq_false_iff_not]
      intro e
      exact hlen (by rw [e])
    have e0 : ((l.length : Int) == (m.length : Int)) = false := by rw [beq_eq_false_iff_ne]; omega
    go_enter Tryz.func133, Tryz.ntmps133
    go_wp2
    all_goals try (exfalso; omega)
    go_ret
    exact ⟨ret_bool HR.out.symm, Fresh.refl _⟩
set_option maxRecDepth 100000 in
set_option maxHeartbeats 1000000 in
theorem eqP_any (l m : List (Int × Int)) (a b : Option Addr) (ca cb : Nat) (w : World) (ha : RowAt w a (pcells l)) (hb : RowAt w b (pcells m)) (hl : l.length ≤ 4000000) (hm : m.length ≤ 4000000) :
    Calls Tryz.prog 134 #[.slice a l.length ca, .slice b m.length cb] w fun e w' => e = .returned (.bool (decide (l = m))) ∧ Fresh w w' := by
  by_cases hlen : l.length = m.length
  · have HA := Lib.hid ha
    have HB := Lib.hid hb
    have HLEN := Lib.hid hlen
    clear ha hb
    rw [← hlen]
    clear hlen
    go_enter Tryz.func134, Tryz.ntmps134
    go_wp2
    all_goals try (exfalso; omega)
    go_loopw [13] (fun a13 wr => ∃ (k : Nat), a13 = .int .i64 (k : Int) ∧ k ≤ l.length ∧ Hid (Fresh w wr) ∧ Hid (∀ j (h1 : j < l.length) (h2 : j < m.length), j < k → l[j] = m[j])) (fun a13 _ => l.length - (intOf a13).toNat)
    case atStart => exact ⟨0, rfl, Nat.zero_le _, Fresh.refl _, fun _ _ _ h => absurd h (Nat.not_lt_zero _)⟩
    case round =>
      obtain ⟨k, rfl, hk, HF, HE⟩ := hrel
      by_cases hlt : k < l.length
      · have hlt2 : k < m.length := by rw [← HLEN.out]; exact hlt
        obtain ⟨g1, o1, rfl, hc1⟩ := prow_form (HA.out.move HF.out) hlt
        obtain ⟨g2, o2, rfl, hc2⟩ := prow_form (HB.out.move HF.out) hlt2
        obtain ⟨c1, c2⟩ := hc1 k hlt
        obtain ⟨c3, c4⟩ := hc2 k hlt2
        clear hc1 hc2
        have HNO : Hid (l[k] ≠ m[k] → decide (l = m) = false) := fun h => by
          rw [decide_eq_false_iff_not]
          intro e
          subst e
          exact h rfl
        have HYES : Hid (l[k] = m[k] → ∀ j (h1 : j < l.length) (h2 : j < m.length), j < k + 1 → l[j] = m[j]) := fun h j h1 h2 hj => by
          rcases Nat.lt_or_ge j k with h3 | h3
          · exact HE.out j h1 h2 h3
          · obtain rfl : j = k := by omega
            exact h
        generalize l[k] = x at *
        generalize m[k] = y at *
        obtain ⟨x1, x2⟩ := x
        obtain ⟨y1, y2⟩ := y
        dsimp only at c1 c2 c3 c4
        by_cases h1 : x1 = y1
        · by_cases h2 : x2 = y2
          · have HY2 := Lib.hid (HYES.out (by rw [h1, h2]))
            clear HYES HNO
            subst h1 h2
            go_wp2_with (fail)
            go_quiet (fail)
            go_wp2
            all_goals try (exfalso; omega)
            go_roundw
            case rel => exact ⟨k + 1, by simp, by omega, HF.out.trans (fresh_drewN _ _), HY2.out⟩
            case measure => simp [intOf]; omega
          · have HN2 := Lib.hid (HNO.out (fun e => h2 (by cases e; rfl)))
            clear HYES HNO
            subst h1
            have e0 : (x2 == y2) = false := by rw [beq_eq_false_iff_ne]; exact h2
            go_wp2_with (fail)
            go_quiet (fail)
            go_wp2
            all_goals try (exfalso; omega)
            go_ret
            exact ⟨ret_bool HN2.out.symm, HF.out.trans (fresh_drewN _ _)⟩
        · have HN2 := Lib.hid (HNO.out (fun e => h1 (by cases e; rfl)))
          clear HYES HNO
          have e0 : (x1 == y1) = false := by rw [beq_eq_false_iff_ne]; exact h1
          go_wp2_with (fail)
          go_quiet (fail)
          go_wp2
          all_goals try (exfalso; omega)
          go_ret
          exact ⟨ret_bool HN2.out.symm, HF.out.trans (fresh_drewN _ _)⟩
      · obtain rfl : k = l.length := by omega
        have HR : Hid (decide (l = m) = true) := by
          rw [Hid, decide_eq_true_eq]
          exact lists_eq HLEN.out (fun j h1 h2 => HE.out j h1 h2 h1)
        go_wp2
        all_goals try (exfalso; omega)
        go_ret
        exact ⟨ret_bool HR.out.symm, HF.out⟩
  · have HR : Hid (decide (l = m) = false) := by
      rw [Hid, decide_eq_false_iff_not]
      intro e
      exact hlen (by rw [e])
    have e0 : ((l.length : Int) == (m.length : Int)) = false := by rw [beq_eq_false_iff_ne]; omega
    go_enter Tryz.func134, Tryz.ntmps134
    go_wp2
    all_goals try (exfalso; omega)
    go_ret
    exact ⟨ret_bool HR.out.symm, Fresh.refl _⟩
set_option maxRecDepth 100000 in
set_option maxHeartbeats 1000000 in
theorem eqE_any (l m : List (ByteArray × ByteArray)) (a b : Option Addr) (ca cb : Nat) (w : World) (ha : RowAt w a (ecells l)) (hb : RowAt w b (ecells m)) (hl : l.length ≤ 4000000) (hm : m.length ≤ 4000000) :
    Calls Tryz.prog 135 #[.slice a l.length ca, .slice b m.length cb] w fun e w' => e = .returned (.bool (decide (l = m))) ∧ Fresh w w' := by
  by_cases hlen : l.length = m.length
  · have HA := Lib.hid ha
    have HB := Lib.hid hb
    have HLEN := Lib.hid hlen
    clear ha hb
    rw [← hlen]
    clear hlen
    go_enter Tryz.func135, Tryz.ntmps135
    go_wp2
    all_goals try (exfalso; omega)
    go_loopw [13] (fun a13 wr => ∃ (k : Nat), a13 = .int .i64 (k : Int) ∧ k ≤ l.length ∧ Hid (Fresh w wr) ∧ Hid (∀ j (h1 : j < l.length) (h2 : j < m.length), j < k → l[j] = m[j])) (fun a13 _ => l.length - (intOf a13).toNat)
    case atStart => exact ⟨0, rfl, Nat.zero_le _, Fresh.refl _, fun _ _ _ h => absurd h (Nat.not_lt_zero _)⟩
    case round =>
      obtain ⟨k, rfl, hk, HF, HE⟩ := hrel
      by_cases hlt : k < l.length
      · have hlt2 : k < m.length := by rw [← HLEN.out]; exact hlt
        obtain ⟨g1, o1, rfl, hc1⟩ := erow_form (HA.out.move HF.out) hlt
        obtain ⟨g2, o2, rfl, hc2⟩ := erow_form (HB.out.move HF.out) hlt2
        obtain ⟨c1, c2⟩ := hc1 k hlt
        obtain ⟨c3, c4⟩ := hc2 k hlt2
        clear hc1 hc2
        have HNO : Hid (l[k] ≠ m[k] → decide (l = m) = false) := fun h => by
          rw [decide_eq_false_iff_not]
          intro e
          subst e
          exact h rfl
        have HYES : Hid (l[k] = m[k] → ∀ j (h1 : j < l.length) (h2 : j < m.length), j < k + 1 → l[j] = m[j]) := fun h j h1 h2 hj => by
          rcases Nat.lt_or_ge j k with h3 | h3
          · exact HE.out j h1 h2 h3
          · obtain rfl : j = k := by omega
            exact h
        generalize l[k] = x at *
        generalize m[k] = y at *
        obtain ⟨x1, x2⟩ := x
        obtain ⟨y1, y2⟩ := y
        dsimp only at c1 c2 c3 c4
        by_cases h1 : x1 = y1
        · by_cases h2 : x2 = y2
          · have HY2 := Lib.hid (HYES.out (by rw [h1, h2]))
            clear HYES HNO
            subst h1 h2
            go_wp2_with (fail)
            go_quiet (fail)
            go_wp2
            all_goals try (exfalso; omega)
            go_roundw
            case rel => exact ⟨k + 1, by simp, by omega, HF.out.trans (fresh_drewN _ _), HY2.out⟩
            case measure => simp [intOf]; omega
          · have HN2 := Lib.hid (HNO.out (fun e => h2 (by cases e; rfl)))
            clear HYES HNO
            subst h1
            have e0 := tl_ne h2
            go_wp2_with (fail)
            go_quiet (fail)
            go_wp2
            all_goals try (exfalso; omega)
            go_ret
            exact ⟨ret_bool HN2.out.symm, HF.out.trans (fresh_drewN _ _)⟩
        · have HN2 := Lib.hid (HNO.out (fun e => h1 (by cases e; rfl)))
          clear HYES HNO
          have e0 := tl_ne h1
          go_wp2_with (fail)
          go_quiet (fail)
          go_wp2
          all_goals try (exfalso; omega)
          go_ret
          exact ⟨ret_bool HN2.out.symm, HF.out.trans (fresh_drewN _ _)⟩
      · obtain rfl : k = l.length := by omega
        have HR : Hid (decide (l = m) = true) := by
          rw [Hid, decide_eq_true_eq]
          exact lists_eq HLEN.out (fun j h1 h2 => HE.out j h1 h2 h1)
        go_wp2
        all_goals try (exfalso; omega)
        go_ret
        exact ⟨ret_bool HR.out.symm, HF.out⟩
  · have HR : Hid (decide (l = m) = false) := by
      rw [Hid, decide_eq_false_iff_not]
      intro e
      exact hlen (by rw [e])
    have e0 : ((l.length : Int) == (m.length : Int)) = false := by rw [beq_eq_false_iff_ne]; omega
    go_enter Tryz.func135, Tryz.ntmps135
    go_wp2
    all_goals try (exfalso; omega)
    go_ret
    exact ⟨ret_bool HR.out.symm, Fresh.refl _⟩
end Go.Proofs.YtldncgelghcjeaaGreatDoor
namespace Go.Proofs.YtldncgelghcjeaaGreatDoor
open Go.ChangeShapes Go.WideShapes Go.ChangeAt Go.RowKit

set_option maxRecDepth 100000 in
set_option maxHeartbeats 4000000 in
theorem csame_any (m n : CM) (w : World) (hm : m.In w) (hn : n.In w) (lm : m.c.Low) (ln : n.c.Low) :
    Calls Tryz.prog 97 #[m.val, n.val] w fun e w' => e = .returned (.bool (sameC m.c n.c)) ∧ Fresh w w' := by
  obtain ⟨⟨s0, s1, lc, lp, n4, n5, le⟩, ca, cc, pa, pc, ea, ec⟩ := m
  obtain ⟨⟨s0', s1', lc', lp', n4', n5', le'⟩, ca', cc', pa', pc', ea', ec'⟩ := n
  have HSC : Hid (sameC ⟨s0, s1, lc, lp, n4, n5, le⟩ ⟨s0', s1', lc', lp', n4', n5', le'⟩ = (decide (s0 = s0') && (decide (s1 = s1') && (decide (lc = lc') && (decide (lp = lp') && (decide (n4 = n4') && (decide (n5 = n5') && decide (le = le')))))))) := rfl
  have HC := Lib.hid hm.cmd
  have HC' := Lib.hid hn.cmd
  have HP := Lib.hid hm.ports
  have HP' := Lib.hid hn.ports
  have HE := Lib.hid hm.env
  have HE' := Lib.hid hn.env
  have HL : Hid (lc.length ≤ 1048576 ∧ lp.length ≤ 1048576 ∧ le.length ≤ 1048576) := ⟨lm.lc, lm.lp, lm.le⟩
  have HL' : Hid (lc'.length ≤ 1048576 ∧ lp'.length ≤ 1048576 ∧ le'.length ≤ 1048576) := ⟨ln.lc, ln.lp, ln.le⟩
  dsimp only [CM.val] at *
  clear hm hn lm ln
  generalize sameC ⟨s0, s1, lc, lp, n4, n5, le⟩ ⟨s0', s1', lc', lp', n4', n5', le'⟩ = R at *
  have HX := Lib.hid (two_boxes w (.cells #[.string s0, .string s1, .slice ca lc.length cc, .slice pa lp.length pc, .int .i64 n4, .int .i64 n5, .slice ea le.length ec] 126) (.cells #[.string s0', .string s1', .slice ca' lc'.length cc', .slice pa' lp'.length pc', .int .i64 n4', .int .i64 n5', .slice ea' le'.length ec'] 126))
  by_cases h0 : s0 = s0'
  case neg =>
    have HR : Hid (R = false) := by rw [Hid, HSC.out, decide_eq_false h0]; simp
    have e0 := tl_ne h0
    have HF := Lib.hid HX.out.2.2.1
    clear HX HSC
    go_enter Tryz.func97, Tryz.ntmps97
    go_wp2
    go_ret
    exact ⟨ret_bool HR.out.symm, HF.out⟩
  subst h0
  by_cases h1 : s1 = s1'
  case neg =>
    have HR : Hid (R = false) := by rw [Hid, HSC.out, decide_eq_false h1]; simp
    have e0 := tl_ne h1
    have HF := Lib.hid HX.out.2.2.1
    clear HX HSC
    go_enter Tryz.func97, Tryz.ntmps97
    go_wp2
    go_ret
    exact ⟨ret_bool HR.out.symm, HF.out⟩
  subst h1
  by_cases h4 : n4 = n4'
  case neg =>
    have HR : Hid (R = false) := by rw [Hid, HSC.out, decide_eq_false h4]; simp
    have e0 : (n4 == n4') = false := by rw [beq_eq_false_iff_ne]; exact h4
    have HF := Lib.hid HX.out.2.2.1
    clear HX HSC
    go_enter Tryz.func97, Tryz.ntmps97
    go_wp2
    go_ret
    exact ⟨ret_bool HR.out.symm, HF.out⟩
  subst h4
  by_cases h5 : n5 = n5'
  case neg =>
    have HR : Hid (R = false) := by rw [Hid, HSC.out, decide_eq_false h5]; simp
    have e0 : (n5 == n5') = false := by rw [beq_eq_false_iff_ne]; exact h5
    have HF := Lib.hid HX.out.2.2.1
    clear HX HSC
    go_enter Tryz.func97, Tryz.ntmps97
    go_wp2
    go_ret
    exact ⟨ret_bool HR.out.symm, HF.out⟩
  subst h5
  have HSC2 : Hid (R = (decide (lc = lc') && (decide (lp = lp') && decide (le = le')))) := by rw [Hid, HSC.out]; simp
  clear HSC
  have HT : Hid (∀ W, Fresh w W → Calls Tryz.prog 133 #[.slice ca lc.length cc, .slice ca' lc'.length cc'] W fun e w' => e = .returned (.bool (decide (lc = lc'))) ∧ Fresh W w') := fun W f => eqT_any lc lc' ca ca' cc cc' W (HC.out.move f) (HC'.out.move f) (by have := HL.out; omega) (by have := HL'.out; omega)
  have HQ : Hid (∀ W, Fresh w W → Calls Tryz.prog 134 #[.slice pa lp.length pc, .slice pa' lp'.length pc'] W fun e w' => e = .returned (.bool (decide (lp = lp'))) ∧ Fresh W w') := fun W f => eqP_any lp lp' pa pa' pc pc' W (HP.out.move f) (HP'.out.move f) (by have := HL.out; omega) (by have := HL'.out; omega)
  have HU : Hid (∀ W, Fresh w W → Calls Tryz.prog 135 #[.slice ea le.length ec, .slice ea' le'.length ec'] W fun e w' => e = .returned (.bool (decide (le = le'))) ∧ Fresh W w') := fun W f => eqE_any le le' ea ea' ec ec' W (HE.out.move f) (HE'.out.move f) (by have := HL.out; omega) (by have := HL'.out; omega)
  clear HC HC' HP HP' HE HE' HL HL'
  generalize decide (lc = lc') = d1 at *
  generalize decide (lp = lp') = d2 at *
  generalize decide (le = le') = d3 at *
  generalize lc.length = z1 at *
  generalize lp.length = z2 at *
  generalize le.length = z3 at *
  generalize lc'.length = z1' at *
  generalize lp'.length = z2' at *
  generalize le'.length = z3' at *
  go_enter Tryz.func97, Tryz.ntmps97
  go_wp2_with (fail)
  generalize (w.alloc (.cells #[.string s0, .string s1, .slice ca z1 cc, .slice pa z2 pc, .int .i64 n4, .int .i64 n5, .slice ea z3 ec] 126)).alloc (.cells #[.string s0, .string s1, .slice ca' z1' cc', .slice pa' z2' pc', .int .i64 n4, .int .i64 n5, .slice ea' z3' ec'] 126) = W0 at *
  obtain ⟨x1, x2, hx3, x4⟩ := HX.out
  have HX3 := Lib.hid hx3
  clear hx3 HX x4
  generalize w.heap.size = b at *
  have X1 := Lib.hid x1
  have X2 := Lib.hid x2
  clear x1 x2
  refine (HT.out _ HX3.out).mono ?_
  rintro e W1 ⟨rfl, hf⟩
  have HF1 := Lib.hid hf
  clear hf
  cases d1 with
  | false =>
    go_wp2
    go_ret
    exact ⟨ret_bool (by rw [HSC2.out]; rfl), HX3.out.trans HF1.out⟩
  | true =>
    obtain ⟨⟨c0, c1, c2, c3, c4, c5, c6⟩, _⟩ := Box7.cells (show Box7 126 W1 b s0 s1 (.slice ca z1 cc) (.slice pa z2 pc) n4 n5 (.slice ea z3 ec) from HF1.out.at X1.out)
    obtain ⟨⟨y0, y1, y2, y3, y4, y5, y6⟩, _⟩ := Box7.cells (show Box7 126 W1 (b + 1) s0 s1 (.slice ca' z1' cc') (.slice pa' z2' pc') n4 n5 (.slice ea' z3' ec') from HF1.out.at X2.out)
    clear c0 c1 c2 c4 c5 y0 y1 y2 y4 y5
    go_wp2_with (fail)
    refine (HQ.out _ (HX3.out.trans HF1.out)).mono ?_
    rintro e W2 ⟨rfl, hf⟩
    have HF2 := Lib.hid (HF1.out.trans hf)
    clear hf
    cases d2 with
    | false =>
      go_wp2
      go_ret
      exact ⟨ret_bool (by rw [HSC2.out]; rfl), HX3.out.trans HF2.out⟩
    | true =>
      clear c3 c6 y3 y6
      obtain ⟨⟨c0, c1, c2, c3, c4, c5, c6⟩, _⟩ := Box7.cells (show Box7 126 W2 b s0 s1 (.slice ca z1 cc) (.slice pa z2 pc) n4 n5 (.slice ea z3 ec) from HF2.out.at X1.out)
      obtain ⟨⟨y0, y1, y2, y3, y4, y5, y6⟩, _⟩ := Box7.cells (show Box7 126 W2 (b + 1) s0 s1 (.slice ca' z1' cc') (.slice pa' z2' pc') n4 n5 (.slice ea' z3' ec') from HF2.out.at X2.out)
      clear c0 c1 c2 c3 c4 c5 y0 y1 y2 y3 y4 y5
      go_wp2_with (fail)
      refine (HU.out _ (HX3.out.trans HF2.out)).mono ?_
      rintro e W3 ⟨rfl, hf⟩
      go_wp2
      go_ret
      exact ⟨ret_bool (by rw [HSC2.out]; rfl), (HX3.out.trans HF2.out).trans hf⟩
end Go.Proofs.YtldncgelghcjeaaGreatDoor

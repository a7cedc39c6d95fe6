/-
  A state of version 3 as the document has it, in rows of its own (printed by genof3.py.txt).
-/
import Derived.Test.YtmomlgkpdoapoaaGreatDoorCat03
import Derived.Test.YtmomlgkpdoapoaaGreatDoorCat06
import Derived.Test.YtmomlgkpdoapoaaGreatDoorCat12
import Derived.Test.YtmomlgkpdoapoaaGreatDoorCat17
import Derived.Test.YtmomlgkpdoapoaaGreatDoorCat18
set_option linter.unusedSimpArgs false
set_option linter.unusedVariables false
namespace Go.Proofs.YtmomlgkpdoapoaaGreatDoor.K
open Go.ChangeShapes Go.WideShapes Go.ChangeAt Go.RowKit
set_option maxRecDepth 100000
set_option linter.unusedSimpArgs false

theorem mixed3o : Tryz.prog.follows .mixedOrders = true := by kernel_rfl
theorem _root_.Go.Proofs.YtmomlgkpdoapoaaGreatDoor.OAt.fr {w0 W W' : World} {B z : Nat} {S T : TypeId} {q : PM} {cz : Array Value} (h : OAt w0 W B q) (f : Fr z T W W') (hz : W.heap[z]? = some (.cells cz S)) (h1 : 83 ≠ S) (h2 : 85 ≠ S) (h3 : 87 ≠ S) (h4 : 83 ≠ T) (h5 : 85 ≠ T) (h6 : 87 ≠ T) : OAt w0 W' B q :=
  ⟨own_fr h.row f hz (by decide) h1 h4, fun m hm => ⟨(h.ins m hm).cmd, own_fr (h.ins m hm).ports f hz (by decide) h2 h5, own_fr (h.ins m hm).env f hz (by decide) h3 h6⟩⟩
theorem _root_.Go.Proofs.YtmomlgkpdoapoaaGreatDoor.OAt.mono {w0 W : World} {B B' : Nat} {q : PM} (h : OAt w0 W B q) (hb : B' ≤ B) : OAt w0 W B' q := ⟨World.ownsRow.mono h.row hb, fun m hm => (h.ins m hm).mono hb⟩
/-- What stands while a pod is turned. -/
structure OfB (z y r : Nat) (seq : Int) (pc : Array Value) (o : Option Addr) (k c : Nat) (D : List M3) (w0 W : World) : Prop where
  fr0 : Fresh w0 W
  bx : W.heap[z]? = some (.cells #[.int .u64 seq, .slice o k c] 30)
  py : W.heap[y]? = some (.cells pc 61)
  rz : W.heap[r]? = some (.cells #[.int .u64 0, .slice none 0 0] 30)
  own : W.ownsRow w0.heap.size 48 7 (.slice o k c) k (D.flatMap M3.cells)
  ins : ∀ x ∈ D, OAt w0 W w0.heap.size x.m
section
variable {z y r : Nat} {seq : Int} {pc : Array Value} {o : Option Addr} {k c : Nat} {D : List M3} {w0 W W' : World}
theorem OfB.fresh (h : OfB z y r seq pc o k c D w0 W) (f : Fresh W W') : OfB z y r seq pc o k c D w0 W' :=
  ⟨h.fr0.trans f, f.at h.bx, f.at h.py, f.at h.rz, own_fresh h.own f, fun x hx => (h.ins x hx).fresh f⟩
/-- Behind the append and the store. -/
structure OfA (z y r : Nat) (seq : Int) (o : Option Addr) (k c : Nat) (D : List M3) (x : M3) (w0 W2 w3 : World) (g cap : Nat) : Prop where
  bx : w3.heap[z]? = some (.cells #[.int .u64 seq, .slice o k c] 30)
  put : (w3.setCell ⟨z, 1, none⟩ (.slice (some ⟨g, 0, none⟩) (k + 1) cap)).heap[z]? = some (.cells #[.int .u64 seq, .slice (some ⟨g, 0, none⟩) (k + 1) cap] 30)
  rz : (w3.setCell ⟨z, 1, none⟩ (.slice (some ⟨g, 0, none⟩) (k + 1) cap)).heap[r]? = some (.cells #[.int .u64 0, .slice none 0 0] 30)
  own : (w3.setCell ⟨z, 1, none⟩ (.slice (some ⟨g, 0, none⟩) (k + 1) cap)).ownsRow w0.heap.size 48 7 (.slice (some ⟨g, 0, none⟩) (k + 1) cap) (k + 1) ((D ++ [x]).flatMap M3.cells)
  ins : ∀ x' ∈ D ++ [x], OAt w0 (w3.setCell ⟨z, 1, none⟩ (.slice (some ⟨g, 0, none⟩) (k + 1) cap)) w0.heap.size x'.m
  fr0 : Fresh w0 (w3.setCell ⟨z, 1, none⟩ (.slice (some ⟨g, 0, none⟩) (k + 1) cap))
theorem of_app (h : OfB z y r seq pc o k c D w0 W) (x : M3) (hx : OAt w0 W w0.heap.size x.m) (hzw : w0.heap.size ≤ z) (hrz : r ≠ z) (hk : k ≤ 4000000) :
    ∃ g cap w3, (Builtin.append_ #[28, 28] 28 #[.slice o k c, .slice (some ⟨W.heap.size, 0, none⟩) 1 1]).run Tryz.prog (W.alloc (.cells x.cells.toArray 48)) = .ok (.slice (some ⟨g, 0, none⟩) (k + 1) cap) w3 ∧ OfA z y r seq o k c D x w0 W w3 g cap := by
  obtain ⟨i0, hi, hz0, hz1, hz2⟩ := info_parts infoRP3
  have hs2 := h.fr0.size
  obtain ⟨v', w3, hr, hown', hgrow, _⟩ := run_append_own (P := Tryz.prog) (w := W.alloc (.cells x.cells.toArray 48)) w0.heap.size 28 28 48 i0 _ 7 96 Tryz.underlying28 hi hz0 hz1 hz2 rfl (by decide) (.slice o k c) k (D.flatMap M3.cells) (World.ownsRow.alloc h.own _) ⟨W.heap.size, 0, none⟩ 1 1 x.cells rfl
    (fun j u hj => by rw [addr_add0]; exact cell_of_at (at_new W (.cells x.cells.toArray 48)) (by simpa using hj)) (by simp [M3.cells, Value.oneCell']) (by unfold maxLen; omega) (by omega) (by rw [World.size_alloc]; omega)
  obtain ⟨g', cap', rfl⟩ := ownsRow_succ hown'
  have keep : ∀ (j : Nat) (cs : Array Value) (t : TypeId) (fz : Nat × Nat), W.heap[j]? = some (.cells cs t fz) → t ≠ 48 → w3.heap[j]? = some (.cells cs t fz) := fun j cs t fz hj n2 => (hgrow.block j (by rw [World.size_alloc]; have := lt_of_at hj; omega) (fun e2 => by
    rcases h.own.2 with ⟨h, _⟩ | ⟨g, cap, cur, h, _, hg, _⟩
    · rw [h] at e2; cases e2
    · rw [h] at e2
      have : j = g := by simpa [Value.ownBlock] using e2
      subst this
      rw [hg] at hj
      cases hj
      exact n2 rfl)).trans (at_alloc hj)
  have hz3 := keep _ _ _ _ h.bx (by decide)
  have f3 : Fr z 48 W (w3.setCell ⟨z, 1, none⟩ (.slice (some ⟨g', 0, none⟩) (k + 1) cap')) := fun j cs t fz hj _ n1 n2 => at_off (keep j cs t fz hj n2) n1 _
  refine ⟨g', cap', w3, hr, hz3, at_set hz3 1 _, at_off (keep _ _ _ _ h.rz (by decide)) hrz _, ?_, fun x' hx' => ?_, ?_⟩
  · have e : (D ++ [x]).flatMap M3.cells = D.flatMap M3.cells ++ x.cells := by simp
    rw [e]
    exact own_type hown' hz3 (by decide) 1 _
  · have hy : OAt w0 W w0.heap.size x'.m := by
      rcases List.mem_append.1 hx' with h2 | h2
      · exact h.ins _ h2
      · simp at h2; subst h2; exact hx
    exact hy.fr f3 h.bx (by decide) (by decide) (by decide) (by decide) (by decide) (by decide)
  · exact ((h.fr0.alloc (.cells x.cells.toArray 48)).grown hgrow (fun g e => (World.ownsRow.lt h.own g e).1)).setCell (p := ⟨z, 1, none⟩) hzw _
/-- The phases. -/
def OfI (z y r : Nat) (seq : Int) (p : M3) (o : Option Addr) (k c : Nat) (D : List M3) (w0 : World) : List Value → World → Prop
  | [], W => OfB z y r seq p.cells.toArray o k c D w0 W
  | [y0], W => ∃ q : PM, y0 = q.val ∧ q.pd = p.m.pd ∧ OAt w0 W w0.heap.size q ∧ OfB z y r seq p.cells.toArray o k c D w0 W
  | [y0, y1], W => ∃ q : PM, y0 = q.val ∧ q.pd = p.m.pd ∧ OAt w0 W w0.heap.size q ∧ OfB z y r seq p.cells.toArray o k c D w0 W ∧ y1 = M3.flat ⟨p.file, q⟩
  | [_, _, y2], W => ∃ (q : PM) (W2 : World), q.pd = p.m.pd ∧ OAt w0 W2 w0.heap.size q ∧ OfB z y r seq p.cells.toArray o k c D w0 W2 ∧ W = W2.alloc (.cells (M3.cells ⟨p.file, q⟩).toArray 48) ∧ y2 = .slice (some ⟨W2.heap.size, 0, none⟩) 1 1
  | [_, _, _, y3], W => ∃ (q : PM) (W2 : World) (g cap : Nat), q.pd = p.m.pd ∧ y3 = .slice (some ⟨g, 0, none⟩) (k + 1) cap ∧ OfA z y r seq o k c D ⟨p.file, q⟩ w0 W2 W g cap
  | [_, _, _, _, _], W => ∃ (q : PM) (W2 w3 : World) (g cap : Nat), q.pd = p.m.pd ∧ OfA z y r seq o k c D ⟨p.file, q⟩ w0 W2 w3 g cap ∧ W = w3.setCell ⟨z, 1, none⟩ (.slice (some ⟨g, 0, none⟩) (k + 1) cap)
  | _, _ => False
theorem OfI.bx {p : M3} : ∀ {h : List Value}, OfI z y r seq p o k c D w0 h W → h.length ≤ 3 → W.heap[z]? = some (.cells #[.int .u64 seq, .slice o k c] 30) ∧ W.heap[y]? = some (.cells p.cells.toArray 61)
  | [], h, _ => ⟨OfB.bx h, OfB.py h⟩
  | [_], h, _ => by
    obtain ⟨q, _, _, _, hB⟩ := h
    exact ⟨hB.bx, hB.py⟩
  | [_, _], h, _ => by
    obtain ⟨q, _, _, _, hB, _⟩ := h
    exact ⟨hB.bx, hB.py⟩
  | [_, _, _], h, _ => by
    obtain ⟨q, W2, _, _, hB, rfl, _⟩ := h
    exact ⟨at_alloc hB.bx, at_alloc hB.py⟩
  | _ :: _ :: _ :: _ :: _, _, hl => by simp at hl
end
attribute [-go_sem] Go.Builtin.append_
set_option maxHeartbeats 16000000 in
theorem of3_any (seq : Int) (a : Option Addr) (l : List M3) (c : Nat) (w : World) (h : Row3 w a l) (hl : l.length ≤ 4000000) (hlo : ∀ x ∈ l, x.m.Low) :
    Calls Tryz.prog 8 #[st3 seq a l.length c] w fun r w' => ∃ a' c', ∃ D : List M3, r = .returned (st3 seq a' D.length c') ∧ pods3 D = pods3 l ∧ Row3 w' a' D ∧ Fresh w w' := by
  have HROW := Lib.hid h
  have HLO := Lib.hid hlo
  have hW := at_alloc (p := .cells #[.int .u64 seq, .slice none 0 0] 30) (by have := at_new (w.alloc (.cells #[.int .u64 seq, .slice a l.length c] 25)) (.cells #[.int .u64 0, .slice none 0 0] 30); rw [World.size_alloc] at this; exact this)
  have hZ := at_new ((w.alloc (.cells #[.int .u64 seq, .slice a l.length c] 25)).alloc (.cells #[.int .u64 0, .slice none 0 0] 30)) (.cells #[.int .u64 seq, .slice none 0 0] 30)
  rw [World.size_alloc, World.size_alloc] at hZ
  have HF0 := Lib.hid ((((Fresh.refl w).alloc (.cells #[.int .u64 seq, .slice a l.length c] 25)).alloc (.cells #[.int .u64 0, .slice none 0 0] 30)).alloc (.cells #[.int .u64 seq, .slice none 0 0] 30))
  have HR := Lib.hid hW
  have HZ := Lib.hid hZ
  dsimp only [st3]
  clear h hlo hW hZ
  go_enter Tryz.func8, Tryz.ntmps8
  go_wp2
  generalize ((w.alloc (.cells #[.int .u64 seq, .slice a l.length c] 25)).alloc (.cells #[.int .u64 0, .slice none 0 0] 30)).alloc (.cells #[.int .u64 seq, .slice none 0 0] 30) = W0 at *
  obtain ⟨b, hb⟩ : ∃ b, b = w.heap.size := ⟨_, rfl⟩
  obtain ⟨r, hr⟩ : ∃ r, r = w.heap.size + 1 := ⟨_, rfl⟩
  obtain ⟨z, hz⟩ : ∃ z, z = w.heap.size + 2 := ⟨_, rfl⟩
  have hrz : r ≠ z := by omega
  have hzw : w.heap.size ≤ z := by omega
  have hrw : w.heap.size ≤ r := by omega
  rw [← hr] at HR
  rw [← hz] at HZ
  rw [← hz, ← hr, ← hb]
  clear hb hr hz
  go_loopw [12] (fun a12 wr => ∃ (k : Nat) (o : Option Addr) (cp : Nat) (D : List M3), a12 = .int .i64 (k : Int) ∧ k ≤ l.length ∧ Hid (D.length = k) ∧ Hid (pods3 D = (pods3 l).take k) ∧ Hid (wr.heap[z]? = some (.cells #[.int .u64 seq, .slice o k cp] 30)) ∧
    Hid (wr.heap[r]? = some (.cells #[.int .u64 0, .slice none 0 0] 30)) ∧ Hid (wr.ownsRow w.heap.size 48 7 (.slice o k cp) k (D.flatMap M3.cells)) ∧ Hid (∀ x ∈ D, OAt w wr w.heap.size x.m) ∧ Hid (Fresh w wr)) (fun a12 _ => l.length - (intOf a12).toNat)
  case atStart => exact ⟨0, none, 0, [], rfl, Nat.zero_le _, rfl, rfl, HZ.out, HR.out, World.ownsRow_nil _ _ _ _, (fun x hx => absurd hx List.not_mem_nil), HF0.out⟩
  case round =>
  clear HZ HR
  obtain ⟨k, o, cp, D, rfl, hk, HD, HPD, HZ, HR, HOW, HIN, HF⟩ := hrel
  by_cases hlt : k < l.length
  case pos =>
    have hR := HROW.out.move HF.out
    obtain ⟨gb, o1, rfl, hc⟩ := m3_form hR.row hlt
    obtain ⟨c0, c1, c2, c3, c4, c5, c6⟩ := hc k hlt
    have HX := Lib.hid (HROW.out.ins _ (List.getElem_mem hlt))
    have HXL := Lib.hid (HLO.out _ (List.getElem_mem hlt))
    have HTK : Hid ((pods3 l).take (k + 1) = (pods3 l).take k ++ [l[k].p]) := by
      have hkp : k < (pods3 l).length := by rw [pods3_length]; exact hlt
      rw [Hid, List.take_succ_eq_append_getElem hkp, pods3_get hlt hkp]
    clear hc hR
    generalize l[k] = x at *
    obtain ⟨file, ⟨name, ns, rs, gr, ho, ca, cap, cs⟩⟩ := x
    dsimp only at c0 c1 c2 c3 c4 c5 c6
    generalize hn : l.length = n at *
    have HB := Lib.hid (OfB.mk (z := z) (r := r) (w0 := w) (HF.out.alloc (.cells (M3.cells ⟨file, ⟨name, ns, rs, gr, ho, ca, cap, cs⟩⟩).toArray 61)) (at_alloc HZ.out) (at_new wr _) (at_alloc HR.out) (own_fresh HOW.out ((Fresh.refl wr).alloc _)) (fun x hx => (HIN.out x hx).fresh ((Fresh.refl wr).alloc _)))
    have hyz : wr.heap.size ≠ z := by have := lt_of_at HZ.out; omega
    have HB : Hid (OfB z wr.heap.size r seq (M3.cells ⟨file, ⟨name, ns, rs, gr, ho, ca, cap, cs⟩⟩).toArray o k cp D w (wr.alloc (.cells #[.string file, .string name, .string ns, .int .i64 rs, .int .i64 gr, .bool ho, .slice ca cs.length cap] 61)).drew) := HB.out.fresh (Fresh.refl _).drew
    clear HZ HR HOW HIN
    go_upto_region 5 with (fail)
    all_goals try (exfalso; omega)
    obtain ⟨y, hy⟩ : ∃ y, y = wr.heap.size := ⟨_, rfl⟩
    rw [← hy] at HB ⊢
    clear hy hyz c0 c1 c2 c3 c4 c5 c6
    rename_i KK hKK
    refine chain_region [6, 7, 8, 9, 11] [some (Value.pointer (some ⟨z, 1, none⟩)), some (Value.slice o k cp), some (Value.pointer (some ⟨y, 0, none⟩)), some (Value.string file), some (Value.pointer (some ⟨y, 1, none⟩)), some (Value.agg #[.string name, .string ns, .int .i64 rs, .int .i64 gr, .bool ho, .slice ca cs.length cap]), none, none, none, none, some (Value.pointer (some ⟨z, 1, none⟩)), none] (OfI z y r seq ⟨file, ⟨name, ns, rs, gr, ho, ca, cap, cs⟩⟩ o k cp D w) mixed3o (n := 29) rfl (by decide +kernel) (ms := [true, true, true, true, true, true, false, false, false, false, true, false]) rfl (by decide +kernel) (HB.out) ⟨?_, ?_, ?_, ?_, ?_, ?_, ?_, ?_, ?_, ?_, ?_, ?_, trivial⟩ ?_
    · intro h a W hI hlo hhi hpos hvw hvr hst
      have g3 := ev_get (show a.eval (.tmp 3) = Value.pointer (some ⟨z, 0, none⟩) from hst 3 (by decide +kernel))
      show (execOp a.eval _).run _ W = .ok (.value (Value.pointer (some ⟨z, 1, none⟩))) W
      simp [execOp, g3, go_sem]
    · intro h a W hI hlo hhi hpos hvw hvr hst
      have g16 := ev_get (show a.eval (.tmp 16) = Value.pointer (some ⟨z, 1, none⟩) from hvr 0 16 _ (by decide +kernel) rfl rfl)
      have q := OfI.bx hI (Nat.le_trans (hhi 3 9 rfl (by decide +kernel)) (by decide))
      have cq := cell_of_at q.1 (i := 1) rfl
      show (execOp a.eval _).run _ W = .ok (.value (Value.slice o k cp)) W
      simp [execOp, g16, go_sem, cq]
    · intro h a W hI hlo hhi hpos hvw hvr hst
      have g5 := ev_get (show a.eval (.tmp 5) = Value.pointer (some ⟨y, 0, none⟩) from hst 5 (by decide +kernel))
      show (execOp a.eval _).run _ W = .ok (.value (Value.pointer (some ⟨y, 0, none⟩))) W
      simp [execOp, g5, go_sem]
    · intro h a W hI hlo hhi hpos hvw hvr hst
      have g18 := ev_get (show a.eval (.tmp 18) = Value.pointer (some ⟨y, 0, none⟩) from hvr 2 18 _ (by decide +kernel) rfl rfl)
      have q := OfI.bx hI (Nat.le_trans (hhi 1 7 rfl (by decide +kernel)) (by decide))
      have cq : World.cell? _ ⟨y, 0, none⟩ = some (.string file) := cell_of_at q.2 rfl
      show (execOp a.eval _).run _ W = .ok (.value (Value.string file)) W
      simp [execOp, g18, go_sem, cq]
    · intro h a W hI hlo hhi hpos hvw hvr hst
      have g5 := ev_get (show a.eval (.tmp 5) = Value.pointer (some ⟨y, 0, none⟩) from hst 5 (by decide +kernel))
      show (execOp a.eval _).run _ W = .ok (.value (Value.pointer (some ⟨y, 1, none⟩))) W
      simp [execOp, g5, go_sem]
    · intro h a W hI hlo hhi hpos hvw hvr hst
      have g20 := ev_get (show a.eval (.tmp 20) = Value.pointer (some ⟨y, 1, none⟩) from hvr 4 20 _ (by decide +kernel) rfl rfl)
      have q := OfI.bx hI (Nat.le_trans (hhi 0 6 rfl (by decide +kernel)) (by decide))
      have c1 : World.cell? _ ⟨y, 1, none⟩ = some (.string name) := cell_of_at q.2 rfl
      have c2 : World.cell? _ ⟨y, 2, none⟩ = some (.string ns) := cell_of_at q.2 rfl
      have c3 : World.cell? _ ⟨y, 3, none⟩ = some (.int .i64 rs) := cell_of_at q.2 rfl
      have c4 : World.cell? _ ⟨y, 4, none⟩ = some (.int .i64 gr) := cell_of_at q.2 rfl
      have c5 : World.cell? _ ⟨y, 5, none⟩ = some (.bool ho) := cell_of_at q.2 rfl
      have c6 : World.cell? _ ⟨y, 6, none⟩ = some (.slice ca cs.length cap) := cell_of_at q.2 rfl
      show (execOp a.eval _).run _ W = .ok (.value (Value.agg #[.string name, .string ns, .int .i64 rs, .int .i64 gr, .bool ho, .slice ca cs.length cap])) W
      simp [execOp, g20, go_sem, c1, c2, c3, c4, c5, c6]
    · intro h a W hI hlo hhi hpos hvw hvr hst
      obtain rfl := lst0 (hpos 0 rfl)
      have g21 := ev_get (show a.eval (.tmp 21) = Value.agg #[.string name, .string ns, .int .i64 rs, .int .i64 gr, .bool ho, .slice ca cs.length cap] from hvr 5 21 _ (by decide +kernel) rfl rfl)
      have hB : OfB z y r seq (M3.cells ⟨file, ⟨name, ns, rs, gr, ho, ca, cap, cs⟩⟩).toArray o k cp D w W := hI
      refine .inr (.inr ⟨16, #[Value.agg #[.string name, .string ns, .int .i64 rs, .int .i64 gr, .bool ho, .slice ca cs.length cap]], by simp [execOp, g21, go_sem], (of_own (⟨name, ns, rs, gr, ho, ca, cap, cs⟩ : PM) w W HX.out hB.fr0 HXL.out).mono ?_⟩)
      rintro e V ⟨q, rfl, hq, ho, hf⟩
      exact ⟨_, rfl, q, rfl, hq, ho.mono hB.fr0.size, hB.fresh hf⟩
    · intro h a W hI hlo hhi hpos hvw hvr hst
      obtain ⟨y0, rfl⟩ := lst1 (hpos 1 rfl)
      have g19 := ev_get (show a.eval (.tmp 19) = Value.string file from hvr 3 19 _ (by decide +kernel) rfl rfl)
      have g22 := ev_get (hvw 0 6 22 y0 rfl rfl rfl)
      obtain ⟨q, rfl, hq, ho, hB⟩ : ∃ q : PM, y0 = q.val ∧ q.pd = PM.pd (⟨name, ns, rs, gr, ho, ca, cap, cs⟩ : PM) ∧ OAt w W w.heap.size q ∧ OfB z y r seq (M3.cells ⟨file, ⟨name, ns, rs, gr, ho, ca, cap, cs⟩⟩).toArray o k cp D w W := hI
      exact .inl ⟨M3.flat ⟨file, q⟩, W, by simp [execOp, g19, g22, go_sem, M3.flat, PM.val], q, rfl, hq, ho, hB, rfl⟩
    · intro h a W hI hlo hhi hpos hvw hvr hst
      obtain ⟨y0, y1, rfl⟩ := lst2 (hpos 2 rfl)
      have g23 := ev_get (hvw 1 7 23 y1 rfl rfl rfl)
      obtain ⟨q, rfl, hq, ho, hB, rfl⟩ : ∃ q : PM, y0 = q.val ∧ q.pd = PM.pd (⟨name, ns, rs, gr, ho, ca, cap, cs⟩ : PM) ∧ OAt w W w.heap.size q ∧ OfB z y r seq (M3.cells ⟨file, ⟨name, ns, rs, gr, ho, ca, cap, cs⟩⟩).toArray o k cp D w W ∧ y1 = M3.flat ⟨file, q⟩ := hI
      exact .inl ⟨.slice (some ⟨W.heap.size, 0, none⟩) 1 1, W.alloc (.cells (M3.cells ⟨file, q⟩).toArray 48), by simp [execOp, g23, go_sem, M3.flat, M3.cells], q, W, hq, ho, hB, rfl, rfl⟩
    · intro h a W hI hlo hhi hpos hvw hvr hst
      obtain ⟨y0, y1, y2, rfl⟩ := lst3 (hpos 3 rfl)
      have g17 := ev_get (show a.eval (.tmp 17) = Value.slice o k cp from hvr 1 17 _ (by decide +kernel) rfl rfl)
      have g24 := ev_get (hvw 2 8 24 y2 rfl rfl rfl)
      obtain ⟨q, W2, hq, ho, hB, rfl, rfl⟩ : ∃ (q : PM) (W2 : World), q.pd = PM.pd (⟨name, ns, rs, gr, ho, ca, cap, cs⟩ : PM) ∧ OAt w W2 w.heap.size q ∧ OfB z y r seq (M3.cells ⟨file, ⟨name, ns, rs, gr, ho, ca, cap, cs⟩⟩).toArray o k cp D w W2 ∧ W = W2.alloc (.cells (M3.cells ⟨file, q⟩).toArray 48) ∧ y2 = .slice (some ⟨W2.heap.size, 0, none⟩) 1 1 := hI
      obtain ⟨g, cap', w3, hrun, hA⟩ := of_app hB ⟨file, q⟩ ho hzw hrz (by omega)
      exact .inl ⟨_, w3, by simp [execOp, g17, g24, go_sem, hrun], q, W2, g, cap', hq, rfl, hA⟩
    · intro h a W hI hlo hhi hpos hvw hvr hst
      have g3 := ev_get (show a.eval (.tmp 3) = Value.pointer (some ⟨z, 0, none⟩) from hst 3 (by decide +kernel))
      show (execOp a.eval _).run _ W = .ok (.value (Value.pointer (some ⟨z, 1, none⟩))) W
      simp [execOp, g3, go_sem]
    · intro h a W hI hlo hhi hpos hvw hvr hst
      obtain ⟨y0, y1, y2, y3, rfl⟩ := lst4 (hpos 4 rfl)
      have g25 := ev_get (hvw 3 9 25 y3 rfl rfl rfl)
      have g26 := ev_get (show a.eval (.tmp 26) = Value.pointer (some ⟨z, 1, none⟩) from hvr 10 26 _ (by decide +kernel) rfl rfl)
      obtain ⟨q, W2, g, cap', hq, rfl, hA⟩ : ∃ (q : PM) (W2 : World) (g cap' : Nat), q.pd = PM.pd (⟨name, ns, rs, gr, ho, ca, cap, cs⟩ : PM) ∧ y3 = .slice (some ⟨g, 0, none⟩) (k + 1) cap' ∧ OfA z y r seq o k cp D ⟨file, q⟩ w W2 W g cap' := hI
      have cq := cell_of_at hA.bx (i := 1) rfl
      have f := frozen_of_at hA.bx 1
      exact .inr (.inl ⟨_, rfl, by simp [execOp, g25, g26, go_sem, cq, f], q, W2, W, g, cap', hq, hA, rfl⟩)
    intro h a W hh hl
    obtain ⟨y0, y1, y2, y3, y4, rfl⟩ := lst5 hl
    obtain ⟨q, W2, w3, g, cap', hq, hA, rfl⟩ : ∃ (q : PM) (W2 w3 : World) (g cap' : Nat), q.pd = PM.pd (⟨name, ns, rs, gr, ho, ca, cap, cs⟩ : PM) ∧ OfA z y r seq o k cp D ⟨file, q⟩ w W2 w3 g cap' ∧ W = w3.setCell ⟨z, 1, none⟩ (.slice (some ⟨g, 0, none⟩) (k + 1) cap') := hh.inv
    have ha := act_lit (n := 29) (by rw [hh.size]; rfl) hh.defers
    have k0 : a.eval (.tmp 0) = Value.agg #[.int .u64 seq, .slice (some ⟨gb, o1, none⟩) n c] := hh.keep 0 (by decide +kernel)
    have k1 : a.eval (.tmp 1) = Value.pointer (some ⟨b, 0, none⟩) := hh.keep 1 (by decide +kernel)
    have k2 : a.eval (.tmp 2) = Value.pointer (some ⟨r, 0, none⟩) := hh.keep 2 (by decide +kernel)
    have k3 : a.eval (.tmp 3) = Value.pointer (some ⟨z, 0, none⟩) := hh.keep 3 (by decide +kernel)
    have k4 : a.eval (.tmp 4) = undef := hh.keep 4 (by decide +kernel)
    have k6 : a.eval (.tmp 6) = Value.pointer (some ⟨b, 0, none⟩) := hh.keep 6 (by decide +kernel)
    have k7 : a.eval (.tmp 7) = Value.int .u64 seq := hh.keep 7 (by decide +kernel)
    have k8 : a.eval (.tmp 8) = Value.agg #[.int .u64 seq, .slice none 0 0] := hh.keep 8 (by decide +kernel)
    have k9 : a.eval (.tmp 9) = Value.pointer (some ⟨b, 1, none⟩) := hh.keep 9 (by decide +kernel)
    have k10 : a.eval (.tmp 10) = Value.slice (some ⟨gb, o1, none⟩) n c := hh.keep 10 (by decide +kernel)
    have k11 : a.eval (.tmp 11) = Value.int .i64 (n : Int) := hh.keep 11 (by decide +kernel)
    have k12 : a.eval (.tmp 12) = Value.int .i64 (k : Int) := hh.keep 12 (by decide +kernel)
    have k28 : a.eval (.tmp 28) = undef := hh.keep 28 (by decide +kernel)
    simp only [List.range, List.range.loop, List.map_cons, List.map_nil, k0, k1, k2, k3, k4, k6, k7, k8, k9, k10, k11, k12, k28] at ha
    clear k0 k1 k2 k3 k4 k6 k7 k8 k9 k10 k11 k12 k28
    generalize a.eval (.tmp 5) = v5 at ha
    generalize a.eval (.tmp 13) = v13 at ha
    generalize a.eval (.tmp 14) = v14 at ha
    generalize a.eval (.tmp 15) = v15 at ha
    generalize a.eval (.tmp 16) = v16 at ha
    generalize a.eval (.tmp 17) = v17 at ha
    generalize a.eval (.tmp 18) = v18 at ha
    generalize a.eval (.tmp 19) = v19 at ha
    generalize a.eval (.tmp 20) = v20 at ha
    generalize a.eval (.tmp 21) = v21 at ha
    generalize a.eval (.tmp 22) = v22 at ha
    generalize a.eval (.tmp 23) = v23 at ha
    generalize a.eval (.tmp 24) = v24 at ha
    generalize a.eval (.tmp 25) = v25 at ha
    generalize a.eval (.tmp 26) = v26 at ha
    generalize a.eval (.tmp 27) = v27 at ha
    clear hh
    subst ha
    have HA := Lib.hid hA
    have HQ := Lib.hid hq
    clear hA hq
    refine hKK _ _ ?_
    go_wp2
    go_roundw
    case rel => exact ⟨k + 1, some ⟨g, 0, none⟩, cap', D ++ ([⟨file, q⟩] : List M3), by simp, by omega, by rw [Hid, List.length_append, HD.out]; rfl, by rw [Hid, pods3_snoc, HPD.out, HTK.out, M3.p, HQ.out]; rfl, HA.out.put, HA.out.rz, HA.out.own, HA.out.ins, HA.out.fr0⟩
    case measure => simp [intOf]; omega
  case neg =>
  obtain rfl : k = l.length := by omega
  have HPE : Hid (pods3 D = pods3 l) := by rw [Hid, HPD.out, List.take_of_length_le (by simp [pods3])]
  have HDE : Hid (D.length = l.length) := HD.out
  have d0 := cell_of_at HZ.out (i := 0) rfl
  have d1 := cell_of_at HZ.out (i := 1) rfl
  have g0 := cell_of_at HR.out (i := 0) rfl
  have g1 := cell_of_at HR.out (i := 1) rfl
  have f0 := frozen_of_at HR.out 0
  have f1 := frozen_of_at HR.out 1
  go_wp2
  all_goals try (exfalso; omega)
  refine bodyPost_ret (v := .agg #[.int .u64 seq, .slice o l.length cp]) (by simp [results, Tryz.results8, go_sem, *]) rfl ⟨o, cp, D, by rw [HDE.out], HPE.out, ⟨?_, fun m hm => ?_⟩, ?_⟩
  · exact RowAt.owns (own_type (own_type HOW.out HR.out (by decide) 0 _) (at_set HR.out 0 _) (by decide) 1 _)
  · exact (((HIN.out m hm).setType HR.out (by decide) (by decide) (by decide) 0 _).setType (at_set HR.out 0 _) (by decide) (by decide) (by decide) 1 _).at ((HF.out.setCell (p := ⟨r, 0, none⟩) hrw _).setCell (p := ⟨r, 1, none⟩) hrw _)
  · exact (HF.out.setCell (p := ⟨r, 0, none⟩) hrw _).setCell (p := ⟨r, 1, none⟩) hrw _
end Go.Proofs.YtmomlgkpdoapoaaGreatDoor.K

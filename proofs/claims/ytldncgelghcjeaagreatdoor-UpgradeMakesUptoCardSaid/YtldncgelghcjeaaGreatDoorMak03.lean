/-
  bosunref20.Three: a state of version 3 made of one of version 2, as the document has it. (printed by genrthree.py.txt)
  States of version 1: few pods, and short texts.
-/
import Derived.Test.YtldncgelghcjeaaGreatDoorMak02
import Derived.Test.YtldncgelghcjeaaGreatDoorUpd03
import Derived.Test.YtldncgelghcjeaaGreatDoorUpd04
import Derived.Test.YtldncgelghcjeaaGreatDoorCat26
import Derived.Test.YtldncgelghcjeaaGreatDoorCat05
import Derived.Test.YtldncgelghcjeaaGreatDoorCat02
set_option linter.unusedSimpArgs false
set_option linter.unusedVariables false
namespace Go.Proofs.YtldncgelghcjeaaGreatDoor.K
open Go.ChangeShapes Go.WideShapes Go.ChangeAt Go.RowKit
set_option maxRecDepth 100000

theorem ev_lit3 {T : List Value} {d : List Deferred} {t : Nat} {v : Value} (h : T[t]? = some v) : Act.eval ⟨T.toArray, d⟩ (.tmp t) = v := by
  simp [Act.eval, h]
/-- What stands in the round of a container. -/
structure RB3 (w : World) (b y x : Nat) (seq : Int) (o : Option Addr) (k cp : Nat) (D : List M3) (pc : Array Value) (a2 : Option Addr) (n cc2 : Nat) (E : List CM) (pv sv : Array Value) (W : World) : Prop where
  op : OP3 w W b seq o k cp D y pc a2 n cc2 E
  pb : W.heap[x]? = some (.cells pv 164)
  sb : W.heap[b]? = some (.cells sv 75)
  xy : x < y
  bx : b + 2 < x
section
variable {w W W' : World} {b y x : Nat} {seq : Int} {o : Option Addr} {k cp : Nat} {D : List M3} {pc : Array Value} {a2 : Option Addr} {n cc2 : Nat} {E : List CM} {pv sv : Array Value}
theorem RB3.yb (h : RB3 w b y x seq o k cp D pc a2 n cc2 E pv sv W) : W.heap[y]? = some (.cells pc 46) := h.op.p
theorem RB3.fresh (h : RB3 w b y x seq o k cp D pc a2 n cc2 E pv sv W) (f : Fresh W W') : RB3 w b y x seq o k cp D pc a2 n cc2 E pv sv W' := ⟨h.op.fresh f, f.at h.pb, f.at h.sb, h.xy, h.bx⟩
theorem RB3.app (h : RB3 w b y x seq o k cp D pc a2 n cc2 E pv sv W) (m : CM) (hn : n ≤ 4000000) :
    ∃ g cap w3, (Builtin.append_ #[44, 44] 44 #[.slice a2 n cc2, .slice (some ⟨W.heap.size, 0, none⟩) 1 1]).run Tryz.prog (W.alloc (.cells m.cells.toArray 115)) = .ok (.slice (some ⟨g, 0, none⟩) (n + 1) cap) w3 ∧ RB3 w b y x seq o k cp D pc (some ⟨g, 0, none⟩) (n + 1) cap (E ++ [m]) pv sv w3 := by
  obtain ⟨g, cap, w3, h1, h2, h3⟩ := h.op.app m hn
  have := h.xy; have := h.bx
  exact ⟨g, cap, w3, h1, h2, h3 x _ (by omega) h.pb, h3 b _ (by omega) h.sb, h.xy, h.bx⟩
theorem RB3.set (h : RB3 w b y x seq o k cp D pc a2 n cc2 E pv sv W) (i : Nat) (u : Value) : RB3 w b y x seq o k cp D (pc.setIfInBounds i u) a2 n cc2 E pv sv (W.setCell ⟨y, i, none⟩ u) :=
  ⟨h.op.setP i u, at_off h.pb (by have := h.xy; omega) _, at_off h.sb (by have := h.xy; have := h.bx; omega) _, h.xy, h.bx⟩
theorem RI.b0 {B : World → Prop} {new : Array Value} {C : Nat → Nat → World → Prop} : ∀ {h : List Value}, RI B new y n C h W → h.length ≤ 0 → B W
  | [], h, _ => h
  | _ :: _, _, hl => by simp at hl
theorem RI.p {B : World → Prop} {new : Array Value} {C : Nat → Nat → World → Prop} {u : Obj} (hB : ∀ W, B W → W.heap[y]? = some u) : ∀ {h : List Value}, RI B new y n C h W → h.length ≤ 1 → W.heap[y]? = some u
  | [], h, _ => hB _ h
  | [_], h, _ => by
    obtain ⟨W2, h1, rfl, _⟩ := h
    exact at_alloc (hB _ h1)
  | _ :: _ :: _, _, hl => by simp at hl
end
set_option maxHeartbeats 8000000 in
theorem rthree_m (seq : Int) (a : Option Addr) (l : List M2) (c : Nat) (w : World) (h : Row2 w a l) (hl : l.length ≤ 4000000) (hcl : ∀ m ∈ l, m.p.cs.length ≤ 4000000) (hnum : ∀ m ∈ l, m.p.Num) :
    Calls Tryz.prog 33 #[st2 seq a l.length c] w fun e w' => ∃ o cp, e = .returned (st3 seq o l.length cp) ∧ AtL ((pods2 l).map up2) w' o ∧ Fresh w w' := by
  have HROW := Lib.hid h
  have HCL := Lib.hid hcl
  have HNM := Lib.hid hnum
  obtain ⟨i0, hi, hz0, hz1, hz2⟩ := info_parts infoR3P
  dsimp only [st2, st3]
  clear h hcl hnum
  have hA := at_new ((w.alloc (.cells #[.int .u64 seq, .slice a l.length c] 75)).alloc (.cells #[.int .u64 0, .slice none 0 0] 30)) (.cells #[.int .u64 seq, .slice none 0 0] 30)
  rw [World.size_alloc, World.size_alloc] at hA
  have hB := at_new (w.alloc (.cells #[.int .u64 seq, .slice a l.length c] 75)) (.cells #[.int .u64 0, .slice none 0 0] 30)
  rw [World.size_alloc] at hB
  have hB := at_alloc (p := .cells #[.int .u64 seq, .slice none 0 0] 30) hB
  have hC := at_alloc (p := .cells #[.int .u64 seq, .slice none 0 0] 30) (at_alloc (p := .cells #[.int .u64 0, .slice none 0 0] 30) (at_new w (.cells #[.int .u64 seq, .slice a l.length c] 75)))
  have hOS : OS3 w (((w.alloc (.cells #[.int .u64 seq, .slice a l.length c] 75)).alloc (.cells #[.int .u64 0, .slice none 0 0] 30)).alloc (.cells #[.int .u64 seq, .slice none 0 0] 30)) w.heap.size seq none 0 0 [] :=
    ⟨rfl, hB, hA, World.ownsRow_nil _ _ _ _, by simp, (((Fresh.refl w).alloc _).alloc _).alloc _⟩
  have HOS0 := Lib.hid hOS
  have HBX0 := Lib.hid hC
  clear hA hB hC hOS
  go_enter Tryz.func33, Tryz.ntmps33
  go_wp2
  generalize ((w.alloc (.cells #[.int .u64 seq, .slice a l.length c] 75)).alloc (.cells #[.int .u64 0, .slice none 0 0] 30)).alloc (.cells #[.int .u64 seq, .slice none 0 0] 30) = W0 at *
  obtain ⟨b, hb⟩ : ∃ b, b = w.heap.size := ⟨_, rfl⟩
  have HBW := Lib.hid hb
  rw [← hb] at HOS0 HBX0 ⊢
  clear hb
  go_loopw [4] (fun a4 wr => ∃ (k : Nat) (o : Option Addr) (cp : Nat) (D : List M3), a4 = .int .i64 (k : Int) ∧ k ≤ l.length ∧ Hid (D.length = k) ∧ Hid (pods3 D = ((pods2 l).take k).map up2) ∧ Hid (∀ x ∈ D, ∀ m ∈ x.m.cs, ∃ d, m = cmOf d) ∧ Hid (wr.heap[b]? = some (.cells #[.int .u64 seq, .slice a l.length c] 75)) ∧ Hid (OS3 w wr b seq o k cp D)) (fun a4 _ => l.length - (intOf a4).toNat)
  case atStart => exact ⟨0, none, 0, [], rfl, Nat.zero_le _, rfl, rfl, (fun x hx => absurd hx List.not_mem_nil), HBX0.out, HOS0.out⟩
  case round =>
  clear HOS0 HBX0
  obtain ⟨k, o, cp, D, rfl, hk, HD, HPD, HDC, HBX, HOS⟩ := hrel
  have p0 := cell_of_at HBX.out (i := 0) rfl
  have p1 := cell_of_at HBX.out (i := 1) rfl
  by_cases hlt : k < l.length
  case pos =>
    have hR := HROW.out.move HOS.out.fr
    obtain ⟨gl, ol, rfl, hc⟩ := m2_form hR.row hlt
    obtain ⟨c0, c1, c2', c3, c4, c5⟩ := hc k hlt
    have HIN := Lib.hid (HROW.out.ins _ (List.getElem_mem hlt)).1
    have HNL := Lib.hid (HCL.out _ (List.getElem_mem hlt))
    have HN1 := Lib.hid (HNM.out _ (List.getElem_mem hlt))
    have HTK : Hid (((pods2 l).take (k + 1)).map up2 = ((pods2 l).take k).map up2 ++ [up2 l[k].p]) := by
      rw [Hid, List.take_succ_eq_append_getElem (by simpa [pods2] using hlt), List.map_append]; simp [pods2]
    have hsz3 : b + 2 < wr.heap.size := lt_of_at HOS.out.st
    clear hc hR
    generalize l[k] = m at *
    obtain ⟨⟨file, name, ns, r, gr, cs⟩, ca, cc⟩ := m
    have y4 : cs.length ≤ 4000000 := HNL.out
    have HIN : Hid (RowAt w ca (c2s cs)) := HIN.out
    obtain ⟨hn0, hn1, hn2, hn3⟩ := HN1.out
    dsimp only at *
    have hw1 : IntKind.i64.wrap r = r := by simp [IntKind.wrap, IntKind.signed, IntKind.bits]; omega
    have hw2 : IntKind.i64.wrap gr = gr := by simp [IntKind.wrap, IntKind.signed, IntKind.bits]; omega
    clear HNL HN1
    have hOP := (HOS.out.fresh ((Fresh.refl wr).alloc (.cells #[.string file, .string name, .string ns, .int .u8 r, .int .u16 gr, .slice ca cs.length cc] 164))).pod #[.string name, .string ns, .int .i64 r, .int .i64 gr, .bool false, .slice none 0 0]
    rw [World.size_alloc] at hOP
    have HB0 : Hid (RB3 w b (wr.heap.size + 1) wr.heap.size seq o k cp D #[.string name, .string ns, .int .i64 r, .int .i64 gr, .bool false, .slice none 0 0] none 0 0 [] #[.string file, .string name, .string ns, .int .u8 r, .int .u16 gr, .slice ca cs.length cc] #[.int .u64 seq, .slice (some ⟨gl, ol, none⟩) l.length c] ((wr.alloc (.cells #[.string file, .string name, .string ns, .int .u8 r, .int .u16 gr, .slice ca cs.length cc] 164)).alloc (.cells #[.string name, .string ns, .int .i64 r, .int .i64 gr, .bool false, .slice none 0 0] 46))) :=
      ⟨hOP, at_alloc (at_new wr _), at_alloc (at_alloc HBX.out), by omega, hsz3⟩
    clear hOP
    go_wp2
    all_goals try (exfalso; omega)
    clear c0 c1 c2' c3 c4 c5 p0 p1
    generalize (wr.alloc (.cells #[.string file, .string name, .string ns, .int .u8 r, .int .u16 gr, .slice ca cs.length cc] 164)).alloc (.cells #[.string name, .string ns, .int .i64 r, .int .i64 gr, .bool false, .slice none 0 0] 46) = V0 at *
    obtain ⟨y, hy⟩ : ∃ y, y = wr.heap.size + 1 := ⟨_, rfl⟩
    obtain ⟨x, hx⟩ : ∃ x, x = wr.heap.size := ⟨_, rfl⟩
    rw [← hy, ← hx] at HB0
    rw [← hy, ← hx]
    clear hy hx
    have hxy : x < y := HB0.out.xy
    have hby : b + 2 < x := HB0.out.bx
    go_loopw [7] (fun a7 wv => ∃ (j : Nat) (a2 : Option Addr) (cc2 : Nat), a7 = .int .i64 (j : Int) ∧ j ≤ cs.length ∧ Hid (RB3 w b y x seq o k cp D #[.string name, .string ns, .int .i64 r, .int .i64 gr, .bool false, .slice a2 j cc2] a2 j cc2 ((cs.take j).map cmOf) #[.string file, .string name, .string ns, .int .u8 r, .int .u16 gr, .slice ca cs.length cc] #[.int .u64 seq, .slice (some ⟨gl, ol, none⟩) l.length c] wv)) (fun a7 _ => cs.length - (intOf a7).toNat)
    case atStart => exact ⟨0, none, 0, rfl, Nat.zero_le _, HB0.out⟩
    case round =>
    clear HB0 HOS HBX
    obtain ⟨j, a2, cc2, rfl, hj, HB⟩ := hrel
    have p5 : wr.cell? ⟨x, 5, none⟩ = some (.slice ca cs.length cc) := cell_of_at HB.out.pb rfl
    by_cases hjlt : j < cs.length
    case pos =>
      obtain ⟨gc, oc, rfl, hcc⟩ := c2_form HIN.out hjlt
      obtain ⟨l0, l1⟩ := hcc j hjlt
      have HTC : Hid ((cs.take (j + 1)).map cmOf = (cs.take j).map cmOf ++ [cmOf cs[j]]) := by rw [Hid, List.take_succ_eq_append_getElem hjlt, List.map_append]; rfl
      have HL : Hid (∀ W, Fresh w W → W.cell? ⟨gc, oc + j * 2, none⟩ = some (.string cs[j].name) ∧ W.cell? ⟨gc, oc + j * 2 + 1, none⟩ = some (.string cs[j].image)) := fun W f => ⟨f.cell l0, f.cell l1⟩
      clear hcc l0 l1
      generalize cs[j] = cj at *
      obtain ⟨x1, x2⟩ := cj
      dsimp only at *
      have i1 : (0 : Int) ≤ (j : Int) := by omega
      have i2 : (j : Int) < (cs.length : Int) := by omega
      have HB : Hid (RB3 w b y x seq o k cp D #[.string name, .string ns, .int .i64 r, .int .i64 gr, .bool false, .slice a2 j cc2] a2 j cc2 ((cs.take j).map cmOf) #[.string file, .string name, .string ns, .int .u8 r, .int .u16 gr, .slice (some ⟨gc, oc, none⟩) cs.length cc] #[.int .u64 seq, .slice (some ⟨gl, ol, none⟩) l.length c] wr.drew) := HB.out.fresh (Fresh.refl _).drew
      go_upto_region 10 with (fail)
      all_goals try (exfalso; omega)
      clear p5
      rename_i KK hKK
      refine chain_region [15, 16, 18] [some (Value.pointer (some ⟨y, 5, none⟩)), some (Value.slice a2 j cc2), some (Value.pointer (some ⟨x, 5, none⟩)), some (Value.slice (some ⟨gc, oc, none⟩) cs.length cc), some (Value.int .i64 (j : Int)), some (Value.pointer (some ⟨gc, oc + j * 2, none⟩)), some (Value.pointer (some ⟨gc, oc + j * 2, none⟩)), some (Value.string x1), some (Value.pointer (some ⟨x, 5, none⟩)), some (Value.slice (some ⟨gc, oc, none⟩) cs.length cc), some (Value.int .i64 (j : Int)), some (Value.pointer (some ⟨gc, oc + j * 2, none⟩)), some (Value.pointer (some ⟨gc, oc + j * 2 + 1, none⟩)), some (Value.string x2), some (Value.agg #[.string x1, .string x2, .slice none 0 0, .slice none 0 0, .int .i64 100, .int .i64 64, .slice none 0 0]), none, none, some (Value.pointer (some ⟨y, 5, none⟩)), none] (RI (RB3 w b y x seq o k cp D #[.string name, .string ns, .int .i64 r, .int .i64 gr, .bool false, .slice a2 j cc2] a2 j cc2 ((cs.take j).map cmOf) #[.string file, .string name, .string ns, .int .u8 r, .int .u16 gr, .slice (some ⟨gc, oc, none⟩) cs.length cc] #[.int .u64 seq, .slice (some ⟨gl, ol, none⟩) l.length c]) (cmOf ⟨x1, x2⟩).cells.toArray y j (fun g cap => RB3 w b y x seq o k cp D #[.string name, .string ns, .int .i64 r, .int .i64 gr, .bool false, .slice a2 j cc2] (some ⟨g, 0, none⟩) (j + 1) cap ((cs.take j).map cmOf ++ [cmOf ⟨x1, x2⟩]) #[.string file, .string name, .string ns, .int .u8 r, .int .u16 gr, .slice (some ⟨gc, oc, none⟩) cs.length cc] #[.int .u64 seq, .slice (some ⟨gl, ol, none⟩) l.length c])) mixed3u (n := 69) rfl (by decide +kernel) (ms := [true, true, true, true, true, true, true, true, true, true, true, true, true, true, true, false, false, true, false]) rfl (by decide +kernel) (HB.out) ⟨?_, ?_, ?_, ?_, ?_, ?_, ?_, ?_, ?_, ?_, ?_, ?_, ?_, ?_, ?_, ?_, ?_, ?_, ?_, trivial⟩ ?_
      · intro h a W hI hlo hhi hpos hvw hvr hst
        have g6 := ev_get (show a.eval (.tmp 6) = Value.pointer (some ⟨y, 0, none⟩) from hst 6 (by decide +kernel))
        show (execOp a.eval _).run _ W = .ok (.value (Value.pointer (some ⟨y, 5, none⟩))) W
        simp [execOp, g6, go_sem]
      · intro h a W hI hlo hhi hpos hvw hvr hst
        have g41 := ev_get (show a.eval (.tmp 41) = Value.pointer (some ⟨y, 5, none⟩) from hvr 0 41 _ (by decide +kernel) rfl rfl)
        have q := RI.p (fun W h => RB3.yb h) hI (Nat.le_trans (hhi 1 16 rfl (by decide +kernel)) (by decide))
        have cq : World.cell? _ ⟨y, 5, none⟩ = some (.slice a2 j cc2) := cell_of_at q rfl
        show (execOp a.eval _).run _ W = .ok (.value (Value.slice a2 j cc2)) W
        simp [execOp, g41, go_sem, cq]
      · intro h a W hI hlo hhi hpos hvw hvr hst
        have g5 := ev_get (show a.eval (.tmp 5) = Value.pointer (some ⟨x, 0, none⟩) from hst 5 (by decide +kernel))
        show (execOp a.eval _).run _ W = .ok (.value (Value.pointer (some ⟨x, 5, none⟩))) W
        simp [execOp, g5, go_sem]
      · intro h a W hI hlo hhi hpos hvw hvr hst
        have g43 := ev_get (show a.eval (.tmp 43) = Value.pointer (some ⟨x, 5, none⟩) from hvr 2 43 _ (by decide +kernel) rfl rfl)
        have q := RI.b0 hI (Nat.le_trans (hhi 0 15 rfl (by decide +kernel)) (by decide))
        have cq : World.cell? _ ⟨x, 5, none⟩ = some (.slice (some ⟨gc, oc, none⟩) cs.length cc) := cell_of_at q.pb rfl
        show (execOp a.eval _).run _ W = .ok (.value (Value.slice (some ⟨gc, oc, none⟩) cs.length cc)) W
        simp [execOp, g43, go_sem, cq]
      · intro h a W hI hlo hhi hpos hvw hvr hst
        have g7 := ev_get (show a.eval (.tmp 7) = Value.int .i64 (j : Int) from hst 7 (by decide +kernel))
        show (execOp a.eval _).run _ W = .ok (.value (Value.int .i64 (j : Int))) W
        simp [execOp, g7, go_sem]
      · intro h a W hI hlo hhi hpos hvw hvr hst
        have g44 := ev_get (show a.eval (.tmp 44) = Value.slice (some ⟨gc, oc, none⟩) cs.length cc from hvr 3 44 _ (by decide +kernel) rfl rfl)
        have g45 := ev_get (show a.eval (.tmp 45) = Value.int .i64 (j : Int) from hvr 4 45 _ (by decide +kernel) rfl rfl)
        show (execOp a.eval _).run _ W = .ok (.value (Value.pointer (some ⟨gc, oc + j * 2, none⟩))) W
        simp [execOp, g44, g45, go_sem, i1, i2]
      · intro h a W hI hlo hhi hpos hvw hvr hst
        have g46 := ev_get (show a.eval (.tmp 46) = Value.pointer (some ⟨gc, oc + j * 2, none⟩) from hvr 5 46 _ (by decide +kernel) rfl rfl)
        show (execOp a.eval _).run _ W = .ok (.value (Value.pointer (some ⟨gc, oc + j * 2, none⟩))) W
        simp [execOp, g46, go_sem]
      · intro h a W hI hlo hhi hpos hvw hvr hst
        have g47 := ev_get (show a.eval (.tmp 47) = Value.pointer (some ⟨gc, oc + j * 2, none⟩) from hvr 6 47 _ (by decide +kernel) rfl rfl)
        have q := RI.b0 hI (Nat.le_trans (hhi 0 15 rfl (by decide +kernel)) (by decide))
        have cq := (HL.out _ q.op.fr).1
        show (execOp a.eval _).run _ W = .ok (.value (Value.string x1)) W
        simp [execOp, g47, go_sem, cq]
      · intro h a W hI hlo hhi hpos hvw hvr hst
        have g5 := ev_get (show a.eval (.tmp 5) = Value.pointer (some ⟨x, 0, none⟩) from hst 5 (by decide +kernel))
        show (execOp a.eval _).run _ W = .ok (.value (Value.pointer (some ⟨x, 5, none⟩))) W
        simp [execOp, g5, go_sem]
      · intro h a W hI hlo hhi hpos hvw hvr hst
        have g49 := ev_get (show a.eval (.tmp 49) = Value.pointer (some ⟨x, 5, none⟩) from hvr 8 49 _ (by decide +kernel) rfl rfl)
        have q := RI.b0 hI (Nat.le_trans (hhi 0 15 rfl (by decide +kernel)) (by decide))
        have cq : World.cell? _ ⟨x, 5, none⟩ = some (.slice (some ⟨gc, oc, none⟩) cs.length cc) := cell_of_at q.pb rfl
        show (execOp a.eval _).run _ W = .ok (.value (Value.slice (some ⟨gc, oc, none⟩) cs.length cc)) W
        simp [execOp, g49, go_sem, cq]
      · intro h a W hI hlo hhi hpos hvw hvr hst
        have g7 := ev_get (show a.eval (.tmp 7) = Value.int .i64 (j : Int) from hst 7 (by decide +kernel))
        show (execOp a.eval _).run _ W = .ok (.value (Value.int .i64 (j : Int))) W
        simp [execOp, g7, go_sem]
      · intro h a W hI hlo hhi hpos hvw hvr hst
        have g50 := ev_get (show a.eval (.tmp 50) = Value.slice (some ⟨gc, oc, none⟩) cs.length cc from hvr 9 50 _ (by decide +kernel) rfl rfl)
        have g51 := ev_get (show a.eval (.tmp 51) = Value.int .i64 (j : Int) from hvr 10 51 _ (by decide +kernel) rfl rfl)
        show (execOp a.eval _).run _ W = .ok (.value (Value.pointer (some ⟨gc, oc + j * 2, none⟩))) W
        simp [execOp, g50, g51, go_sem, i1, i2]
      · intro h a W hI hlo hhi hpos hvw hvr hst
        have g52 := ev_get (show a.eval (.tmp 52) = Value.pointer (some ⟨gc, oc + j * 2, none⟩) from hvr 11 52 _ (by decide +kernel) rfl rfl)
        show (execOp a.eval _).run _ W = .ok (.value (Value.pointer (some ⟨gc, oc + j * 2 + 1, none⟩))) W
        simp [execOp, g52, go_sem]
      · intro h a W hI hlo hhi hpos hvw hvr hst
        have g53 := ev_get (show a.eval (.tmp 53) = Value.pointer (some ⟨gc, oc + j * 2 + 1, none⟩) from hvr 12 53 _ (by decide +kernel) rfl rfl)
        have q := RI.b0 hI (Nat.le_trans (hhi 0 15 rfl (by decide +kernel)) (by decide))
        have cq := (HL.out _ q.op.fr).2
        show (execOp a.eval _).run _ W = .ok (.value (Value.string x2)) W
        simp [execOp, g53, go_sem, cq]
      · intro h a W hI hlo hhi hpos hvw hvr hst
        have g48 := ev_get (show a.eval (.tmp 48) = Value.string x1 from hvr 7 48 _ (by decide +kernel) rfl rfl)
        have g54 := ev_get (show a.eval (.tmp 54) = Value.string x2 from hvr 13 54 _ (by decide +kernel) rfl rfl)
        show (execOp a.eval _).run _ W = .ok (.value (Value.agg #[.string x1, .string x2, .slice none 0 0, .slice none 0 0, .int .i64 100, .int .i64 64, .slice none 0 0])) W
        simp [execOp, g48, g54, go_sem]
      · intro h a W hI hlo hhi hpos hvw hvr hst
        obtain rfl := lst0 (hpos 0 rfl)
        have g55 := ev_get (show a.eval (.tmp 55) = Value.agg #[.string x1, .string x2, .slice none 0 0, .slice none 0 0, .int .i64 100, .int .i64 64, .slice none 0 0] from hvr 14 55 _ (by decide +kernel) rfl rfl)
        exact .inl ⟨.slice (some ⟨W.heap.size, 0, none⟩) 1 1, W.alloc (.cells (cmOf ⟨x1, x2⟩).cells.toArray 115), by simp [execOp, g55, go_sem, cmOf, upC, CM.cells], W, hI, rfl, rfl⟩
      · intro h a W hI hlo hhi hpos hvw hvr hst
        obtain ⟨y0, rfl⟩ := lst1 (hpos 1 rfl)
        have g42 := ev_get (show a.eval (.tmp 42) = Value.slice a2 j cc2 from hvr 1 42 _ (by decide +kernel) rfl rfl)
        have g56 := ev_get (hvw 0 15 56 y0 rfl rfl rfl)
        obtain ⟨W2, hB, rfl, rfl⟩ : ∃ W2 : World, RB3 w b y x seq o k cp D #[.string name, .string ns, .int .i64 r, .int .i64 gr, .bool false, .slice a2 j cc2] a2 j cc2 ((cs.take j).map cmOf) #[.string file, .string name, .string ns, .int .u8 r, .int .u16 gr, .slice (some ⟨gc, oc, none⟩) cs.length cc] #[.int .u64 seq, .slice (some ⟨gl, ol, none⟩) l.length c] W2 ∧ W = W2.alloc (.cells (cmOf ⟨x1, x2⟩).cells.toArray 115) ∧ y0 = .slice (some ⟨W2.heap.size, 0, none⟩) 1 1 := hI
        obtain ⟨g, cap', w3, hrun, hop⟩ := RB3.app hB (cmOf ⟨x1, x2⟩) (by omega)
        have h42 : a.eval (.tmp 42) = .slice a2 j cc2 := by simpa [Act.eval] using g42
        have h56 : a.eval (.tmp 56) = .slice (some ⟨W2.heap.size, 0, none⟩) 1 1 := by simpa [Act.eval] using g56
        exact .inl ⟨_, w3, by simp only [execOp, resolve, invoke, builtin, Sem.run_bind, Sem.run_pure, Result.andThen_ok, List.map_toArray, List.map_cons, List.map_nil, h42, h56, hrun], g, cap', rfl, hop⟩
      · intro h a W hI hlo hhi hpos hvw hvr hst
        have g6 := ev_get (show a.eval (.tmp 6) = Value.pointer (some ⟨y, 0, none⟩) from hst 6 (by decide +kernel))
        show (execOp a.eval _).run _ W = .ok (.value (Value.pointer (some ⟨y, 5, none⟩))) W
        simp [execOp, g6, go_sem]
      · intro h a W hI hlo hhi hpos hvw hvr hst
        obtain ⟨y0, y1, rfl⟩ := lst2 (hpos 2 rfl)
        have g57 := ev_get (hvw 1 16 57 y1 rfl rfl rfl)
        have g58 := ev_get (show a.eval (.tmp 58) = Value.pointer (some ⟨y, 5, none⟩) from hvr 17 58 _ (by decide +kernel) rfl rfl)
        obtain ⟨g, cap', rfl, hC⟩ : ∃ g cap, y1 = .slice (some ⟨g, 0, none⟩) (j + 1) cap ∧ (fun g cap => RB3 w b y x seq o k cp D #[.string name, .string ns, .int .i64 r, .int .i64 gr, .bool false, .slice a2 j cc2] (some ⟨g, 0, none⟩) (j + 1) cap ((cs.take j).map cmOf ++ [cmOf ⟨x1, x2⟩]) #[.string file, .string name, .string ns, .int .u8 r, .int .u16 gr, .slice (some ⟨gc, oc, none⟩) cs.length cc] #[.int .u64 seq, .slice (some ⟨gl, ol, none⟩) l.length c]) g cap W := hI
        have hyb := RB3.yb hC
        have cq : World.cell? _ ⟨y, 5, none⟩ = some (.slice a2 j cc2) := cell_of_at hyb rfl
        have f := frozen_of_at hyb 5
        exact .inr (.inl ⟨_, rfl, by simp [execOp, g57, g58, go_sem, cq, f], g, cap', W, hC, rfl⟩)
      intro h a W hh hl
      obtain ⟨y0, y1, y2, rfl⟩ := lst3 hl
      obtain ⟨g, cap', W3, hC, rfl⟩ : ∃ (g cap : Nat) (W3 : World), (fun g cap => RB3 w b y x seq o k cp D #[.string name, .string ns, .int .i64 r, .int .i64 gr, .bool false, .slice a2 j cc2] (some ⟨g, 0, none⟩) (j + 1) cap ((cs.take j).map cmOf ++ [cmOf ⟨x1, x2⟩]) #[.string file, .string name, .string ns, .int .u8 r, .int .u16 gr, .slice (some ⟨gc, oc, none⟩) cs.length cc] #[.int .u64 seq, .slice (some ⟨gl, ol, none⟩) l.length c]) g cap W3 ∧ W = W3.setCell ⟨y, 5, none⟩ (.slice (some ⟨g, 0, none⟩) (j + 1) cap) := hh.inv
      have ha := act_lit (n := 69) (by rw [hh.size]; rfl) hh.defers
      have k0 := (hh.keep 0 (by decide +kernel)).trans (ev_lit3 rfl)
      have k1 := (hh.keep 1 (by decide +kernel)).trans (ev_lit3 rfl)
      have k2 := (hh.keep 2 (by decide +kernel)).trans (ev_lit3 rfl)
      have k3 := (hh.keep 3 (by decide +kernel)).trans (ev_lit3 rfl)
      have k4 := (hh.keep 4 (by decide +kernel)).trans (ev_lit3 rfl)
      have k5 := (hh.keep 5 (by decide +kernel)).trans (ev_lit3 rfl)
      have k6 := (hh.keep 6 (by decide +kernel)).trans (ev_lit3 rfl)
      have k7 := (hh.keep 7 (by decide +kernel)).trans (ev_lit3 rfl)
      have k8 := (hh.keep 8 (by decide +kernel)).trans (ev_lit3 rfl)
      have k9 := (hh.keep 9 (by decide +kernel)).trans (ev_lit3 rfl)
      have k10 := (hh.keep 10 (by decide +kernel)).trans (ev_lit3 rfl)
      have k11 := (hh.keep 11 (by decide +kernel)).trans (ev_lit3 rfl)
      have k12 := (hh.keep 12 (by decide +kernel)).trans (ev_lit3 rfl)
      have k13 := (hh.keep 13 (by decide +kernel)).trans (ev_lit3 rfl)
      have k14 := (hh.keep 14 (by decide +kernel)).trans (ev_lit3 rfl)
      have k15 := (hh.keep 15 (by decide +kernel)).trans (ev_lit3 rfl)
      have k16 := (hh.keep 16 (by decide +kernel)).trans (ev_lit3 rfl)
      have k17 := (hh.keep 17 (by decide +kernel)).trans (ev_lit3 rfl)
      have k18 := (hh.keep 18 (by decide +kernel)).trans (ev_lit3 rfl)
      have k19 := (hh.keep 19 (by decide +kernel)).trans (ev_lit3 rfl)
      have k20 := (hh.keep 20 (by decide +kernel)).trans (ev_lit3 rfl)
      have k21 := (hh.keep 21 (by decide +kernel)).trans (ev_lit3 rfl)
      have k22 := (hh.keep 22 (by decide +kernel)).trans (ev_lit3 rfl)
      have k23 := (hh.keep 23 (by decide +kernel)).trans (ev_lit3 rfl)
      have k24 := (hh.keep 24 (by decide +kernel)).trans (ev_lit3 rfl)
      have k25 := (hh.keep 25 (by decide +kernel)).trans (ev_lit3 rfl)
      have k26 := (hh.keep 26 (by decide +kernel)).trans (ev_lit3 rfl)
      have k27 := (hh.keep 27 (by decide +kernel)).trans (ev_lit3 rfl)
      have k28 := (hh.keep 28 (by decide +kernel)).trans (ev_lit3 rfl)
      have k29 := (hh.keep 29 (by decide +kernel)).trans (ev_lit3 rfl)
      have k30 := (hh.keep 30 (by decide +kernel)).trans (ev_lit3 rfl)
      have k31 := (hh.keep 31 (by decide +kernel)).trans (ev_lit3 rfl)
      have k32 := (hh.keep 32 (by decide +kernel)).trans (ev_lit3 rfl)
      have k33 := (hh.keep 33 (by decide +kernel)).trans (ev_lit3 rfl)
      have k59 := (hh.keep 59 (by decide +kernel)).trans (ev_lit3 rfl)
      have k60 := (hh.keep 60 (by decide +kernel)).trans (ev_lit3 rfl)
      have k61 := (hh.keep 61 (by decide +kernel)).trans (ev_lit3 rfl)
      have k62 := (hh.keep 62 (by decide +kernel)).trans (ev_lit3 rfl)
      have k63 := (hh.keep 63 (by decide +kernel)).trans (ev_lit3 rfl)
      have k64 := (hh.keep 64 (by decide +kernel)).trans (ev_lit3 rfl)
      have k65 := (hh.keep 65 (by decide +kernel)).trans (ev_lit3 rfl)
      have k66 := (hh.keep 66 (by decide +kernel)).trans (ev_lit3 rfl)
      have k67 := (hh.keep 67 (by decide +kernel)).trans (ev_lit3 rfl)
      have k68 := (hh.keep 68 (by decide +kernel)).trans (ev_lit3 rfl)
      simp only [List.range, List.range.loop, List.map_cons, List.map_nil, k0, k1, k2, k3, k4, k5, k6, k7, k8, k9, k10, k11, k12, k13, k14, k15, k16, k17, k18, k19, k20, k21, k22, k23, k24, k25, k26, k27, k28, k29, k30, k31, k32, k33, k59, k60, k61, k62, k63, k64, k65, k66, k67, k68] at ha
      clear k0 k1 k2 k3 k4 k5 k6 k7 k8 k9 k10 k11 k12 k13 k14 k15 k16 k17 k18 k19 k20 k21 k22 k23 k24 k25 k26 k27 k28 k29 k30 k31 k32 k33 k59 k60 k61 k62 k63 k64 k65 k66 k67 k68
      generalize a.eval (.tmp 34) = v34 at ha
      generalize a.eval (.tmp 35) = v35 at ha
      generalize a.eval (.tmp 36) = v36 at ha
      generalize a.eval (.tmp 37) = v37 at ha
      generalize a.eval (.tmp 38) = v38 at ha
      generalize a.eval (.tmp 41) = v41 at ha
      generalize a.eval (.tmp 42) = v42 at ha
      generalize a.eval (.tmp 43) = v43 at ha
      generalize a.eval (.tmp 44) = v44 at ha
      generalize a.eval (.tmp 45) = v45 at ha
      generalize a.eval (.tmp 46) = v46 at ha
      generalize a.eval (.tmp 47) = v47 at ha
      generalize a.eval (.tmp 48) = v48 at ha
      generalize a.eval (.tmp 49) = v49 at ha
      generalize a.eval (.tmp 50) = v50 at ha
      generalize a.eval (.tmp 51) = v51 at ha
      generalize a.eval (.tmp 52) = v52 at ha
      generalize a.eval (.tmp 53) = v53 at ha
      generalize a.eval (.tmp 54) = v54 at ha
      generalize a.eval (.tmp 55) = v55 at ha
      generalize a.eval (.tmp 56) = v56 at ha
      generalize a.eval (.tmp 57) = v57 at ha
      generalize a.eval (.tmp 58) = v58 at ha
      generalize a.eval (.tmp 39) = v39 at ha
      generalize a.eval (.tmp 40) = v40 at ha
      clear hh
      subst ha
      have HC := Lib.hid hC
      clear hC
      refine hKK _ _ ?_
      go_wp2
      go_roundw
      case rel => exact ⟨j + 1, some ⟨g, 0, none⟩, cap', by simp, by omega, by rw [Hid, HTC.out]; exact HC.out.set 5 _⟩
      case measure => simp [intOf]; omega
    case neg =>
      obtain rfl : j = cs.length := by omega
      have HB : Hid (RB3 w b y x seq o k cp D #[.string name, .string ns, .int .i64 r, .int .i64 gr, .bool false, .slice a2 cs.length cc2] a2 cs.length cc2 (cs.map cmOf) #[.string file, .string name, .string ns, .int .u8 r, .int .u16 gr, .slice ca cs.length cc] #[.int .u64 seq, .slice (some ⟨gl, ol, none⟩) l.length c] wr) := by
        have := HB.out
        rw [List.take_length] at this; exact this
      have q1 := cell_of_at HB.out.op.st (i := 1) rfl
      have d0 := cell_of_at HB.out.yb (i := 0) rfl
      have d1 := cell_of_at HB.out.yb (i := 1) rfl
      have d2 := cell_of_at HB.out.yb (i := 2) rfl
      have d3 := cell_of_at HB.out.yb (i := 3) rfl
      have d4 := cell_of_at HB.out.yb (i := 4) rfl
      have d5 := cell_of_at HB.out.yb (i := 5) rfl
      have e0 := cell_of_at HB.out.pb (i := 0) rfl
      have hys : y < wr.heap.size := lt_of_at HB.out.yb
      have HN := Lib.hid (news7 wr 48 [.string file, .string name, .string ns, .int .i64 r, .int .i64 gr, .bool false, .slice a2 cs.length cc2])
      go_wp2_with (at_builtin; refine Hid.out ?_)
      all_goals try (exfalso; omega)
      refine Lib.hid ?_
      refine wpList_append_own _ rfl _ _ 28 rfl (b + 3) 48 i0 (.agg #[.string ⟨#[]⟩, .string ⟨#[]⟩, .string ⟨#[]⟩, .int .i64 0, .int .i64 0, .bool false, .slice none 0 0]) 7 96 Tryz.underlying28 hi hz0 hz1 hz2 rfl (by decide) _ k _ rfl (World.ownsRow.alloc HB.out.op.row _) ⟨wr.heap.size, 0, none⟩ 1 1 [.string file, .string name, .string ns, .int .i64 r, .int .i64 gr, .bool false, .slice a2 cs.length cc2] rfl rfl HN.out (by simp [Value.oneCell']) (by unfold maxLen; omega) (by omega) (by rw [World.size_alloc]; omega) ?_
      intro v' w8 hown' hgrow _
      obtain ⟨g', cap', rfl⟩ := ownsRow_succ hown'
      have HND : Hid (OS3 w (w8.setCell ⟨b + 2, 1, none⟩ (.slice (some ⟨g', 0, none⟩) (k + 1) cap')) b seq (some ⟨g', 0, none⟩) (k + 1) cap' (D ++ [(⟨file, ⟨name, ns, r, gr, false, a2, cc2, cs.map cmOf⟩⟩ : M3)])) :=
        (HB.out.op.fresh ((Fresh.refl wr).alloc _)).grownP (m := ⟨file, ⟨name, ns, r, gr, false, a2, cc2, cs.map cmOf⟩⟩) (by simp [M3.sl3]) (by simp) rfl hgrow (by rw [m3s_snoc]; dsimp only; rw [List.length_map]; exact hown')
      have hlt8 : ∀ g, (Value.slice o k cp).ownBlock = some g → b + 3 ≤ g := fun g e => (World.ownsRow.lt HB.out.op.row g e).1
      have hb2 := (hgrow.block (b + 2) (by rw [World.size_alloc]; omega) (fun e => by have := hlt8 (b + 2) e.symm; omega)).trans (at_alloc HB.out.op.st)
      have HB8 := Lib.hid ((hgrow.block b (by rw [World.size_alloc]; omega) (fun e => by have := hlt8 b e.symm; omega)).trans (at_alloc HB.out.sb))
      have k1 := cell_of_at hb2 (i := 1) rfl
      have kf := frozen_of_at hb2 1
      clear hown' hgrow hb2 hlt8 q1 d0 d1 d2 d3 d4 d5 e0 p5
      go_wp2
      go_roundw
      case rel =>
        refine ⟨k + 1, some ⟨g', 0, none⟩, cap', D ++ [(⟨file, ⟨name, ns, r, gr, false, a2, cc2, cs.map cmOf⟩⟩ : M3)], by simp, by omega, ?_, ?_, ?_, at_off HB8.out (by omega) _, HND.out⟩
        · rw [Hid, List.length_append, HD.out]; rfl
        · rw [Hid, pods3_snoc, HPD.out, HTK.out]
          simp [M3.p, PM.pd, up2, Function.comp_def, cmOf]
        · intro x hx m hm
          rcases List.mem_append.1 hx with hx | hx
          · exact HDC.out x hx m hm
          · obtain rfl := List.mem_singleton.1 hx
            obtain ⟨d, _, rfl⟩ := List.mem_map.1 hm
            exact ⟨d, rfl⟩
      case measure => simp [intOf]; omega
  case neg =>
    obtain rfl : k = l.length := by omega
    have z0 := cell_of_at HOS.out.st (i := 0) rfl
    have z1 := cell_of_at HOS.out.st (i := 1) rfl
    have r0 := cell_of_at HOS.out.r (i := 0) rfl
    have r1 := cell_of_at HOS.out.r (i := 1) rfl
    have f0 := frozen_of_at HOS.out.r 0
    have f1 := frozen_of_at HOS.out.r 1
    go_wp2
    all_goals try (exfalso; omega)
    have HP : Hid (pods3 D = (pods2 l).map up2) := by
      have := HPD.out
      rw [List.take_of_length_le (by simp [pods2])] at this
      exact this
    refine bodyPost_ret (v := st3 seq o l.length cp) (by simp [results, Tryz.results33, go_sem, st3, *]) rfl ⟨o, cp, rfl, ?_⟩
    obtain ⟨⟨E, hE, hr⟩, hf⟩ := HOS.out.done HDC.out (.int .u64 seq) (.slice o l.length cp)
    exact ⟨⟨E, by rw [hE, HP.out], hr⟩, hf⟩
theorem rthree_any (seq : Int) (a : Option Addr) (L : List P2) (c : Nat) (w : World) (h : AtP L w a) (hl : L.length ≤ 1048576) (hlo : ∀ p ∈ L, p.Sm) :
    Calls Tryz.prog 33 #[st2 seq a L.length c] w fun e w' => ∃ o cp, e = .returned (st3 seq o L.length cp) ∧ AtL (L.map up2) w' o ∧ Fresh w w' := by
  obtain ⟨D, rfl, hr⟩ := h
  rw [pods2_length] at hl ⊢
  exact rthree_m seq a D c w hr (by omega) (fun m hm => Nat.le_trans (hlo _ (pods2_mem hm)).2 (by decide)) (fun m hm => (hlo _ (pods2_mem hm)).num)
end Go.Proofs.YtldncgelghcjeaaGreatDoor.K
namespace Go.Proofs.YtldncgelghcjeaaGreatDoor.K
open Go.ChangeShapes Go.WideShapes Go.ChangeAt Go.RowKit
set_option maxRecDepth 100000

/-! ### few pods, and short texts -/
def P1.w (p : P1) : Nat := 1 + p.file.size + p.name.size + p.image.size
def smA : Nat → List P1 → Bool
  | _, [] => true
  | n, p :: l => if 20000 < n + p.w then false else smA (n + p.w) l
theorem smA_drop {l : List P1} {k : Nat} (h : k < l.length) (n : Nat) : smA n (l.drop k) = if 20000 < n + l[k].w then false else smA (n + l[k].w) (l.drop (k + 1)) := by
  rw [List.drop_eq_getElem_cons h, smA]
theorem smA_fit : ∀ (l : List P1) (n : Nat), smA n l = true → n ≤ 20000 → l.length + n ≤ 20000 ∧ ∀ p ∈ l, p.file.size ≤ 20000 ∧ p.name.size ≤ 20000 ∧ p.image.size ≤ 20000
  | [], n, _, hn => ⟨by simpa using hn, by simp⟩
  | p :: l, n, h, hn => by
    rw [smA] at h
    split at h
    · simp at h
    · rename_i h1
      obtain ⟨h2, h3⟩ := smA_fit l _ h (by omega)
      unfold P1.w at h1 h2
      refine ⟨by rw [List.length_cons]; omega, fun q hq => ?_⟩
      rcases List.mem_cons.1 hq with rfl | hq
      · omega
      · exact h3 q hq
set_option maxHeartbeats 4000000 in
theorem small1_any (seq : Int) (a : Option Addr) (l : List P1) (c : Nat) (w : World) (h : RowAt w a (p1s l)) (hf : ∀ p ∈ l, p.Fit 140737488355328) (hl : l.length ≤ maxLen) :
    Calls Tryz.prog 24 #[st1 seq a l.length c] w fun e w' => e = .returned (.bool (smA 0 l)) ∧ Fresh w w' := by
  unfold maxLen at hl
  have HROW := Lib.hid h
  have HFT := Lib.hid hf
  have HF0 := Lib.hid ((Fresh.refl w).alloc (.cells #[.int .u32 seq, .slice a l.length c] 63))
  have HC : Hid (smA 0 l = smA 0 (l.drop 0)) := rfl
  dsimp only [st1]
  clear h hf
  generalize smA 0 l = E at *
  go_enter Tryz.func24, Tryz.ntmps24
  go_wp2
  generalize w.alloc (.cells #[.int .u32 seq, .slice a l.length c] 63) = W0 at *
  go_loopw [3, 9] (fun a3 a9 wr => ∃ (k n : Nat), a9 = .int .i64 (k : Int) ∧ a3 = .int .i64 (n : Int) ∧ k ≤ l.length ∧ n ≤ 20000 ∧ Hid (E = smA n (l.drop k)) ∧ Hid (Fresh W0 wr)) (fun _ a9 _ => l.length - (intOf a9).toNat)
  case atStart => exact ⟨0, 0, rfl, rfl, Nat.zero_le _, Nat.zero_le _, HC.out, Fresh.refl _⟩
  case round =>
    obtain ⟨k, n, rfl, rfl, hk, hn, HE, HF⟩ := hrel
    by_cases hlt : k < l.length
    · obtain ⟨g, o1, rfl, hc⟩ := p1_form ((HROW.out.move HF0.out).move HF.out) hlt
      obtain ⟨c0, c1, c2, c3⟩ := hc k hlt
      have hfi := HFT.out _ (List.getElem_mem hlt)
      have HSTEP := Lib.hid (HE.out.trans (smA_drop hlt n))
      clear hc
      generalize l[k] = p at *
      obtain ⟨file, name, image, r⟩ := p
      have y1 : file.size ≤ 140737488355328 := hfi.file
      have y2 : name.size ≤ 140737488355328 := hfi.name
      have y3 : image.size ≤ 140737488355328 := hfi.image
      have HW : Hid (P1.w ⟨file, name, image, r⟩ = 1 + file.size + name.size + image.size) := rfl
      have hadd : (n : Int) + (1 + (file.size : Int) + (name.size : Int) + (image.size : Int)) = ((n + (1 + file.size + name.size + image.size) : Nat) : Int) := by omega
      rw [HW.out] at HSTEP
      dsimp only at *
      clear hfi HW
      have HF1 := Lib.hid ((Fresh.refl wr).alloc (.cells #[.string file, .string name, .string image, .int .u8 r] 154))
      have hs2 : n + (1 + file.size + name.size + image.size) ≤ 562949953450000 := by omega
      generalize n + (1 + file.size + name.size + image.size) = s2 at *
      by_cases h2 : 20000 < s2
      · have HR : Hid (E = false) := by rw [Hid, HSTEP.out, if_pos h2]
        clear HSTEP
        go_wp2
        all_goals try (exfalso; omega)
        go_ret
        exact ⟨ret_bool HR.out.symm, (HF0.out.trans HF.out).trans HF1.out⟩
      · have HN : Hid (E = smA s2 (l.drop (k + 1))) := by rw [Hid, HSTEP.out, if_neg h2]
        clear HSTEP
        go_wp2
        all_goals try (exfalso; omega)
        go_roundw
        case rel => exact ⟨k + 1, s2, by simp, rfl, by omega, by omega, HN.out, HF.out.trans HF1.out⟩
        case measure => simp [intOf]; omega
    · obtain rfl : k = l.length := by omega
      have HR : Hid (E = true) := by rw [Hid, HE.out, List.drop_of_length_le (Nat.le_refl _)]; rfl
      go_wp2
      all_goals try (exfalso; omega)
      go_ret
      exact ⟨ret_bool HR.out.symm, HF0.out.trans HF.out⟩
end Go.Proofs.YtldncgelghcjeaaGreatDoor.K

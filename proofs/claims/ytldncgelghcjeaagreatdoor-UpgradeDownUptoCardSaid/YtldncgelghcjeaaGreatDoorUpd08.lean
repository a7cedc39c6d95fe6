/-
  bosunref20.Down: the state of version 2 of which one of version 3 was made, as the document has it. (printed by genrdown.py.txt)
-/
import Derived.Test.YtldncgelghcjeaaGreatDoorUpd07
import Derived.Test.YtldncgelghcjeaaGreatDoorUpd05
import Derived.Test.YtldncgelghcjeaaGreatDoorUpd03
set_option linter.unusedSimpArgs false
set_option linter.unusedVariables false
namespace Go.Proofs.YtldncgelghcjeaaGreatDoor.K
open Go.ChangeShapes Go.WideShapes Go.ChangeAt Go.RowKit
set_option maxRecDepth 100000

/-- What stands in the round of a container. -/
structure RD (w : World) (b y x : Nat) (seq : Int) (o : Option Addr) (k cp : Nat) (D : List M2) (pc : Array Value) (a2 : Option Addr) (n cc2 : Nat) (E : List C2) (pv sv : Array Value) (W : World) : Prop where
  op : OP w W b seq o k cp D y pc a2 n cc2 E
  pb : W.heap[x]? = some (.cells pv 46)
  sb : W.heap[b]? = some (.cells sv 30)
  xy : x < y
  bx : b + 2 < x
section
variable {w W W' : World} {b y x : Nat} {seq : Int} {o : Option Addr} {k cp : Nat} {D : List M2} {pc : Array Value} {a2 : Option Addr} {n cc2 : Nat} {E : List C2} {pv sv : Array Value}
theorem RD.fresh (h : RD w b y x seq o k cp D pc a2 n cc2 E pv sv W) (f : Fresh W W') : RD w b y x seq o k cp D pc a2 n cc2 E pv sv W' := ⟨h.op.fresh f, f.at h.pb, f.at h.sb, h.xy, h.bx⟩
theorem RD.set (h : RD w b y x seq o k cp D pc a2 n cc2 E pv sv W) (i : Nat) (u : Value) : RD w b y x seq o k cp D (pc.setIfInBounds i u) a2 n cc2 E pv sv (W.setCell ⟨y, i, none⟩ u) :=
  ⟨h.op.setP i u, at_off h.pb (by have := h.xy; omega) _, at_off h.sb (by have := h.xy; have := h.bx; omega) _, h.xy, h.bx⟩
theorem RD.grownC (h : RD w b y x seq o k cp D pc a2 n cc2 E pv sv W) (hg : W.grownBy W' (Value.slice a2 n cc2).ownBlock) {a' : Option Addr} {n' cc' : Nat} {E' : List C2} (hr : W'.ownsRow (y + 1) 165 2 (.slice a' n' cc') n' (c2s E')) : RD w b y x seq o k cp D pc a' n' cc' E' pv sv W' := by
  have hlt : ∀ g, (Value.slice a2 n cc2).ownBlock = some g → y + 1 ≤ g := fun g e => (World.ownsRow.lt h.op.crow g e).1
  have hat : ∀ {z : Nat} {u : Obj}, z ≤ y → W.heap[z]? = some u → W'.heap[z]? = some u := fun {z u} hz hu => (hg.block z (lt_of_at hu) (fun e => by have := hlt z e.symm; omega)).trans hu
  have := h.xy; have := h.bx
  exact ⟨h.op.grownC hg hr, hat (by omega) h.pb, hat (by omega) h.sb, h.xy, h.bx⟩
end
theorem ev_lit3 {T : List Value} {d : List Deferred} {t : Nat} {v : Value} (h : T[t]? = some v) : Act.eval ⟨T.toArray, d⟩ (.tmp t) = v := by
  simp [Act.eval, h]
/-- The phases of the region that makes the pod's box. -/
def DI (V0 : World) (zr fin : Array Value) : List Value → World → Prop
  | [], W => Fresh V0 W
  | [y0], W => ∃ W2, Fresh V0 W2 ∧ W = W2.alloc (.cells zr 164) ∧ y0 = .pointer (some ⟨W2.heap.size, 0, none⟩)
  | [y0, _], W => ∃ W2, Fresh V0 W2 ∧ W = W2.alloc (.cells fin 164) ∧ y0 = .pointer (some ⟨W2.heap.size, 0, none⟩)
  | _, _ => False
theorem DI.fr {V0 W : World} {zr fin : Array Value} : ∀ {h : List Value}, DI V0 zr fin h W → h.length ≤ 1 → Fresh V0 W
  | [], h, _ => h
  | [_], h, _ => by
    obtain ⟨W2, h1, rfl, _⟩ := h
    exact h1.alloc _
  | _ :: _ :: _, _, hl => by simp at hl
theorem all_take {α : Type} (f : α → Bool) (l : List α) (k : Nat) (h : k < l.length) (h1 : (l.take k).all f = true) (h2 : f l[k] = true) : (l.take (k + 1)).all f = true := by
  rw [List.take_succ_eq_append_getElem h, List.all_append, h1]
  simpa using h2
theorem all_bad {α : Type} (f : α → Bool) (l : List α) (k : Nat) (h : k < l.length) (h2 : f l[k] = false) : l.all f = false := by
  rw [List.all_eq_false]
  exact ⟨l[k], List.getElem_mem h, by rw [h2]; decide⟩
theorem mayC_bad {c : Ct} (h : mayC c = false) : 0 < c.cmd.length ∨ (c.cmd.length = 0 ∧ 0 < c.ports.length) ∨ (c.cmd.length = 0 ∧ c.ports.length = 0 ∧ 0 < c.env.length) ∨ (c.cmd.length = 0 ∧ c.ports.length = 0 ∧ c.env.length = 0 ∧ c.cpu ≠ 100) ∨ (c.cmd.length = 0 ∧ c.ports.length = 0 ∧ c.env.length = 0 ∧ c.cpu = 100 ∧ c.mem ≠ 64) := by
  unfold mayC at h
  by_cases h1 : c.cmd.length = 0
  case neg => exact .inl (by omega)
  by_cases h2 : c.ports.length = 0
  case neg => exact .inr (.inl ⟨h1, by omega⟩)
  by_cases h3 : c.env.length = 0
  case neg => exact .inr (.inr (.inl ⟨h1, h2, by omega⟩))
  by_cases h4 : c.cpu = 100
  case neg => exact .inr (.inr (.inr (.inl ⟨h1, h2, h3, h4⟩)))
  by_cases h5 : c.mem = 64
  case neg => exact .inr (.inr (.inr (.inr ⟨h1, h2, h3, h4, h5⟩)))
  simp [h1, h2, h3, h4, h5] at h
theorem mayC_ok {c : Ct} (h : mayC c = true) : c.cmd.length = 0 ∧ c.ports.length = 0 ∧ c.env.length = 0 ∧ c.cpu = 100 ∧ c.mem = 64 := by
  simpa [mayC, and_assoc] using h
theorem mayH_bad {r g : Int} {ho : Bool} {n s : ByteArray} {cs : List Ct} (h : mayH ⟨n, s, r, g, ho, cs⟩ = false) : r < 0 ∨ (0 ≤ r ∧ 255 < r) ∨ (0 ≤ r ∧ r ≤ 255 ∧ g < 0) ∨ (0 ≤ r ∧ r ≤ 255 ∧ 0 ≤ g ∧ 65535 < g) ∨ (0 ≤ r ∧ r ≤ 255 ∧ 0 ≤ g ∧ g ≤ 65535 ∧ ho = true) := by
  unfold mayH at h
  dsimp only at h
  by_cases h1 : 0 ≤ r
  case neg => exact .inl (by omega)
  by_cases h2 : r ≤ 255
  case neg => exact .inr (.inl ⟨h1, by omega⟩)
  by_cases h3 : 0 ≤ g
  case neg => exact .inr (.inr (.inl ⟨h1, h2, by omega⟩))
  by_cases h4 : g ≤ 65535
  case neg => exact .inr (.inr (.inr (.inl ⟨h1, h2, h3, by omega⟩)))
  cases ho with
  | true => exact .inr (.inr (.inr (.inr ⟨h1, h2, h3, h4, rfl⟩)))
  | false => simp [h1, h2, h3, h4] at h
theorem mayH_ok {r g : Int} {ho : Bool} {n s : ByteArray} {cs : List Ct} (h : mayH ⟨n, s, r, g, ho, cs⟩ = true) : 0 ≤ r ∧ r ≤ 255 ∧ 0 ≤ g ∧ g ≤ 65535 ∧ ho = false := by
  simpa [mayH, and_assoc] using h
set_option maxHeartbeats 16000000 in
theorem rdown_m (seq : Int) (a : Option Addr) (l : List M3) (c : Nat) (w : World) (h : Row3 w a l) (hl : l.length ≤ 4000000) (hcl : ∀ m ∈ l, m.m.cs.length ≤ 4000000) :
    Calls Tryz.prog 36 #[st3 seq a l.length c] w (DownIs ((pods3 l).all may) seq (pods3 l) w) := by
  have HROW := Lib.hid h
  have HCL := Lib.hid hcl
  obtain ⟨i0, hi, hz0, hz1, hz2⟩ := info_parts infoRP2
  obtain ⟨ic1, hic, hic0, hic1, hic2⟩ := info_parts infoRC2
  obtain ⟨M, hM⟩ : ∃ M, M = (pods3 l).all may := ⟨_, rfl⟩
  have HM := Lib.hid hM
  rw [← hM]
  dsimp only [st3]
  clear h hcl hM
  have hA := at_new ((w.alloc (.cells #[.int .u64 seq, .slice a l.length c] 30)).alloc (.cells #[.int .u64 0, .slice none 0 0] 75)) (.cells #[.int .u64 seq, .slice none 0 0] 75)
  rw [World.size_alloc, World.size_alloc] at hA
  have hB := at_new (w.alloc (.cells #[.int .u64 seq, .slice a l.length c] 30)) (.cells #[.int .u64 0, .slice none 0 0] 75)
  rw [World.size_alloc] at hB
  have hB := at_alloc (p := .cells #[.int .u64 seq, .slice none 0 0] 75) hB
  have hC := at_alloc (p := .cells #[.int .u64 seq, .slice none 0 0] 75) (at_alloc (p := .cells #[.int .u64 0, .slice none 0 0] 75) (at_new w (.cells #[.int .u64 seq, .slice a l.length c] 30)))
  have hOS : OS w (((w.alloc (.cells #[.int .u64 seq, .slice a l.length c] 30)).alloc (.cells #[.int .u64 0, .slice none 0 0] 75)).alloc (.cells #[.int .u64 seq, .slice none 0 0] 75)) w.heap.size seq none 0 0 [] :=
    ⟨rfl, hB, hA, World.ownsRow_nil _ _ _ _, by simp, (((Fresh.refl w).alloc _).alloc _).alloc _⟩
  have HOS0 := Lib.hid hOS
  have HBX0 := Lib.hid hC
  clear hA hB hC hOS
  go_enter Tryz.func36, Tryz.ntmps36
  go_wp2
  generalize ((w.alloc (.cells #[.int .u64 seq, .slice a l.length c] 30)).alloc (.cells #[.int .u64 0, .slice none 0 0] 75)).alloc (.cells #[.int .u64 seq, .slice none 0 0] 75) = W0 at *
  obtain ⟨b, hb⟩ : ∃ b, b = w.heap.size := ⟨_, rfl⟩
  have HBW := Lib.hid hb
  rw [← hb] at HOS0 HBX0 ⊢
  clear hb
  go_loopw [5] (fun a5 wr => ∃ (k : Nat) (o : Option Addr) (cp : Nat) (D : List M2), a5 = .int .i64 (k : Int) ∧ k ≤ l.length ∧ Hid (D.length = k) ∧ Hid (pods2 D = ((pods3 l).take k).map dn) ∧ Hid (((pods3 l).take k).all may = true) ∧ Hid (wr.heap[b]? = some (.cells #[.int .u64 seq, .slice a l.length c] 30)) ∧ Hid (OS w wr b seq o k cp D)) (fun a5 _ => l.length - (intOf a5).toNat)
  case atStart => exact ⟨0, none, 0, [], rfl, Nat.zero_le _, rfl, rfl, rfl, HBX0.out, HOS0.out⟩
  case round =>
  clear HOS0 HBX0
  obtain ⟨k, o, cp, D, rfl, hk, HD, HPD, HAL, HBX, HOS⟩ := hrel
  have p0 := cell_of_at HBX.out (i := 0) rfl
  have p1 := cell_of_at HBX.out (i := 1) rfl
  by_cases hlt : k < l.length
  case pos =>
    have hR := HROW.out.move HOS.out.fr
    obtain ⟨gl, ol, rfl, hc⟩ := m3_form hR.row hlt
    obtain ⟨c0, c1, c2', c3, c4, c5, c6⟩ := hc k hlt
    have HIN := Lib.hid (HROW.out.ins _ (List.getElem_mem hlt)).row
    have HNL := Lib.hid (HCL.out _ (List.getElem_mem hlt))
    have hkp : k < (pods3 l).length := by rw [pods3_length]; exact hlt
    have HTK : Hid (((pods3 l).take (k + 1)).map dn = ((pods3 l).take k).map dn ++ [dn l[k].p]) := by
      rw [Hid, List.take_succ_eq_append_getElem hkp, List.map_append, pods3_get hlt hkp]; rfl
    have HAK : Hid (may l[k].p = true → ((pods3 l).take (k + 1)).all may = true) := fun h => all_take may _ k hkp HAL.out (by rw [pods3_get hlt hkp]; exact h)
    have HBD : Hid (may l[k].p = false → M = false) := fun h => by
      rw [HM.out]; exact all_bad may _ k hkp (by rw [pods3_get hlt hkp]; exact h)
    have hsz3 : b + 2 < wr.heap.size := lt_of_at HOS.out.st
    clear hc hR hkp
    generalize l[k] = m at *
    obtain ⟨file, ⟨name, ns, r, gr, ho, ca, cap, cs⟩⟩ := m
    have y4 : cs.length ≤ 4000000 := HNL.out
    have HIN : Hid (RowAt w ca (ccells cs)) := HIN.out
    have HMA : Hid (may (M3.p ⟨file, ⟨name, ns, r, gr, ho, ca, cap, cs⟩⟩) = (mayH ⟨name, ns, r, gr, ho, cs.map (·.c)⟩ && (cs.map (·.c)).all mayC)) := rfl
    rw [Hid] at HMA
    rw [HMA] at HAK HBD
    clear HMA
    dsimp only at *
    clear HNL
    cases hmh : mayH ⟨name, ns, r, gr, ho, cs.map (·.c)⟩ with
    | false =>
      have HMF : M = false := HBD.out (by rw [hmh]; rfl)
      have HOF := Lib.hid (HOS.out.fresh ((Fresh.refl wr).alloc (.cells #[.string name, .string ns, .int .i64 r, .int .i64 gr, .bool ho, .slice ca cs.length cap] 46)))
      clear HAK HBD
      rcases mayH_bad hmh with h1 | ⟨h1, h2⟩ | ⟨h1, h2, h3⟩ | ⟨h1, h2, h3, h4⟩ | ⟨h1, h2, h3, h4, rfl⟩
      all_goals clear hmh
      · have d1 : decide (r < 0) = true := decide_eq_true h1
        have r0 := cell_of_at HOF.out.r (i := 0) rfl
        have r1 := cell_of_at HOF.out.r (i := 1) rfl
        have f0 := frozen_of_at HOF.out.r 0
        have f1 := frozen_of_at HOF.out.r 1
        have hp := at_set (at_set HOF.out.r 0 (.int .u64 0)) 1 (.slice none 0 0)
        simp only [List.setIfInBounds_toArray, List.set_cons_zero, List.set_cons_succ] at hp
        have s0 := cell_of_at hp (i := 0) rfl
        have s1 := cell_of_at hp (i := 1) rfl
        clear hp
        go_wp2
        all_goals try (exfalso; omega)
        exact bodyPost_ret (v := .tuple #[.agg #[.int .u64 0, .slice none 0 0], .bool false]) (by simp [results, Tryz.results36, go_sem, *]) rfl (.inr ⟨HMF, rfl, (HOF.out.fr.setCell (p := ⟨b + 1, 0, none⟩) (by have := HOF.out.hb; show _ ≤ b + 1; omega) _).setCell (p := ⟨b + 1, 1, none⟩) (by have := HOF.out.hb; show _ ≤ b + 1; omega) _⟩)
      · have d1 : decide (r < 0) = false := decide_eq_false (by omega)
        have d2 : decide (255 < r) = true := decide_eq_true h2
        have r0 := cell_of_at HOF.out.r (i := 0) rfl
        have r1 := cell_of_at HOF.out.r (i := 1) rfl
        have f0 := frozen_of_at HOF.out.r 0
        have f1 := frozen_of_at HOF.out.r 1
        have hp := at_set (at_set HOF.out.r 0 (.int .u64 0)) 1 (.slice none 0 0)
        simp only [List.setIfInBounds_toArray, List.set_cons_zero, List.set_cons_succ] at hp
        have s0 := cell_of_at hp (i := 0) rfl
        have s1 := cell_of_at hp (i := 1) rfl
        clear hp
        go_wp2
        all_goals try (exfalso; omega)
        exact bodyPost_ret (v := .tuple #[.agg #[.int .u64 0, .slice none 0 0], .bool false]) (by simp [results, Tryz.results36, go_sem, *]) rfl (.inr ⟨HMF, rfl, (HOF.out.fr.setCell (p := ⟨b + 1, 0, none⟩) (by have := HOF.out.hb; show _ ≤ b + 1; omega) _).setCell (p := ⟨b + 1, 1, none⟩) (by have := HOF.out.hb; show _ ≤ b + 1; omega) _⟩)
      · have d1 : decide (r < 0) = false := decide_eq_false (by omega)
        have d2 : decide (255 < r) = false := decide_eq_false (by omega)
        have d3 : decide (gr < 0) = true := decide_eq_true h3
        have r0 := cell_of_at HOF.out.r (i := 0) rfl
        have r1 := cell_of_at HOF.out.r (i := 1) rfl
        have f0 := frozen_of_at HOF.out.r 0
        have f1 := frozen_of_at HOF.out.r 1
        have hp := at_set (at_set HOF.out.r 0 (.int .u64 0)) 1 (.slice none 0 0)
        simp only [List.setIfInBounds_toArray, List.set_cons_zero, List.set_cons_succ] at hp
        have s0 := cell_of_at hp (i := 0) rfl
        have s1 := cell_of_at hp (i := 1) rfl
        clear hp
        go_wp2
        all_goals try (exfalso; omega)
        exact bodyPost_ret (v := .tuple #[.agg #[.int .u64 0, .slice none 0 0], .bool false]) (by simp [results, Tryz.results36, go_sem, *]) rfl (.inr ⟨HMF, rfl, (HOF.out.fr.setCell (p := ⟨b + 1, 0, none⟩) (by have := HOF.out.hb; show _ ≤ b + 1; omega) _).setCell (p := ⟨b + 1, 1, none⟩) (by have := HOF.out.hb; show _ ≤ b + 1; omega) _⟩)
      · have d1 : decide (r < 0) = false := decide_eq_false (by omega)
        have d2 : decide (255 < r) = false := decide_eq_false (by omega)
        have d3 : decide (gr < 0) = false := decide_eq_false (by omega)
        have d4 : decide (65535 < gr) = true := decide_eq_true h4
        have r0 := cell_of_at HOF.out.r (i := 0) rfl
        have r1 := cell_of_at HOF.out.r (i := 1) rfl
        have f0 := frozen_of_at HOF.out.r 0
        have f1 := frozen_of_at HOF.out.r 1
        have hp := at_set (at_set HOF.out.r 0 (.int .u64 0)) 1 (.slice none 0 0)
        simp only [List.setIfInBounds_toArray, List.set_cons_zero, List.set_cons_succ] at hp
        have s0 := cell_of_at hp (i := 0) rfl
        have s1 := cell_of_at hp (i := 1) rfl
        clear hp
        go_wp2
        all_goals try (exfalso; omega)
        exact bodyPost_ret (v := .tuple #[.agg #[.int .u64 0, .slice none 0 0], .bool false]) (by simp [results, Tryz.results36, go_sem, *]) rfl (.inr ⟨HMF, rfl, (HOF.out.fr.setCell (p := ⟨b + 1, 0, none⟩) (by have := HOF.out.hb; show _ ≤ b + 1; omega) _).setCell (p := ⟨b + 1, 1, none⟩) (by have := HOF.out.hb; show _ ≤ b + 1; omega) _⟩)
      · have d1 : decide (r < 0) = false := decide_eq_false (by omega)
        have d2 : decide (255 < r) = false := decide_eq_false (by omega)
        have d3 : decide (gr < 0) = false := decide_eq_false (by omega)
        have d4 : decide (65535 < gr) = false := decide_eq_false (by omega)
        have r0 := cell_of_at HOF.out.r (i := 0) rfl
        have r1 := cell_of_at HOF.out.r (i := 1) rfl
        have f0 := frozen_of_at HOF.out.r 0
        have f1 := frozen_of_at HOF.out.r 1
        have hp := at_set (at_set HOF.out.r 0 (.int .u64 0)) 1 (.slice none 0 0)
        simp only [List.setIfInBounds_toArray, List.set_cons_zero, List.set_cons_succ] at hp
        have s0 := cell_of_at hp (i := 0) rfl
        have s1 := cell_of_at hp (i := 1) rfl
        clear hp
        go_wp2
        all_goals try (exfalso; omega)
        exact bodyPost_ret (v := .tuple #[.agg #[.int .u64 0, .slice none 0 0], .bool false]) (by simp [results, Tryz.results36, go_sem, *]) rfl (.inr ⟨HMF, rfl, (HOF.out.fr.setCell (p := ⟨b + 1, 0, none⟩) (by have := HOF.out.hb; show _ ≤ b + 1; omega) _).setCell (p := ⟨b + 1, 1, none⟩) (by have := HOF.out.hb; show _ ≤ b + 1; omega) _⟩)
    | true =>
    obtain ⟨h1, h2, h3, h4, rfl⟩ := mayH_ok hmh
    rw [hmh, Bool.true_and] at HAK HBD
    have d1 : decide (r < 0) = false := decide_eq_false (by omega)
    have d2 : decide (255 < r) = false := decide_eq_false (by omega)
    have d3 : decide (gr < 0) = false := decide_eq_false (by omega)
    have d4 : decide (65535 < gr) = false := decide_eq_false (by omega)
    have hw1 : IntKind.u8.wrap r = r := by simp [IntKind.wrap, IntKind.signed, IntKind.bits]; omega
    have hw2 : IntKind.u16.wrap gr = gr := by simp [IntKind.wrap, IntKind.signed, IntKind.bits]; omega
    clear hmh
    have HOV := Lib.hid (HOS.out.fresh ((Fresh.refl wr).alloc (.cells #[.string name, .string ns, .int .i64 r, .int .i64 gr, .bool false, .slice ca cs.length cap] 46)))
    have HPB := Lib.hid (at_new wr (.cells #[.string name, .string ns, .int .i64 r, .int .i64 gr, .bool false, .slice ca cs.length cap] 46))
    have HSB := Lib.hid (at_alloc (p := .cells #[.string name, .string ns, .int .i64 r, .int .i64 gr, .bool false, .slice ca cs.length cap] 46) HBX.out)
    have HCF := Lib.hid (((Fresh.refl wr).alloc (.cells #[.string name, .string ns, .int .i64 r, .int .i64 gr, .bool false, .slice ca cs.length cap] 46)).cell c0)
    have i1 : (0 : Int) ≤ (k : Int) := by omega
    have i2 : (k : Int) < (l.length : Int) := by omega
    go_upto_region 8 with (fail)
    all_goals try (exfalso; omega)
    clear c0 c1 c2' c3 c4 c5 c6 p0 p1
    generalize wr.alloc (.cells #[.string name, .string ns, .int .i64 r, .int .i64 gr, .bool false, .slice ca cs.length cap] 46) = V0 at *
    obtain ⟨x, hx⟩ : ∃ x, x = wr.heap.size := ⟨_, rfl⟩
    rw [← hx] at HPB hsz3 ⊢
    clear hx
    rename_i KK hKK
    refine chain_region [17, 18] [some (Value.pointer (some ⟨b, 1, none⟩)), some (Value.slice (some ⟨gl, ol, none⟩) l.length c), some (Value.int .i64 (k : Int)), some (Value.pointer (some ⟨gl, ol + k * 7, none⟩)), some (Value.pointer (some ⟨gl, ol + k * 7, none⟩)), some (Value.string file), some (Value.pointer (some ⟨x, 0, none⟩)), some (Value.string name), some (Value.pointer (some ⟨x, 1, none⟩)), some (Value.string ns), some (Value.pointer (some ⟨x, 2, none⟩)), some (Value.int .i64 r), some (Value.int .u8 r), some (Value.pointer (some ⟨x, 3, none⟩)), some (Value.int .i64 gr), some (Value.int .u16 gr), some (Value.agg #[.string file, .string name, .string ns, .int .u8 r, .int .u16 gr, .slice none 0 0]), none, none] (DI V0 #[.string ⟨#[]⟩, .string ⟨#[]⟩, .string ⟨#[]⟩, .int .u8 0, .int .u16 0, .slice none 0 0] #[.string file, .string name, .string ns, .int .u8 r, .int .u16 gr, .slice none 0 0]) mixed3u (n := 122) rfl (by decide +kernel) (ms := [true, true, true, true, true, true, true, true, true, true, true, true, true, true, true, true, true, false, false]) rfl (by decide +kernel) ((Fresh.refl V0).drew) ⟨?_, ?_, ?_, ?_, ?_, ?_, ?_, ?_, ?_, ?_, ?_, ?_, ?_, ?_, ?_, ?_, ?_, ?_, ?_, trivial⟩ ?_
    · intro h a W hI hlo hhi hpos hvw hvr hst
      have g1 := ev_get (show a.eval (.tmp 1) = Value.pointer (some ⟨b, 0, none⟩) from hst 1 (by decide +kernel))
      show (execOp a.eval _).run _ W = .ok (.value (Value.pointer (some ⟨b, 1, none⟩))) W
      simp [execOp, g1, go_sem]
    · intro h a W hI hlo hhi hpos hvw hvr hst
      have g49 := ev_get (show a.eval (.tmp 49) = Value.pointer (some ⟨b, 1, none⟩) from hvr 0 49 _ (by decide +kernel) rfl rfl)
      have q := DI.fr hI (Nat.le_trans (hhi 1 18 rfl (by decide +kernel)) (by decide))
      have cq : World.cell? _ ⟨b, 1, none⟩ = some (.slice (some ⟨gl, ol, none⟩) l.length c) := cell_of_at (q.at HSB.out) rfl
      show (execOp a.eval _).run _ W = .ok (.value (Value.slice (some ⟨gl, ol, none⟩) l.length c)) W
      simp [execOp, g49, go_sem, cq]
    · intro h a W hI hlo hhi hpos hvw hvr hst
      have g5 := ev_get (show a.eval (.tmp 5) = Value.int .i64 (k : Int) from hst 5 (by decide +kernel))
      show (execOp a.eval _).run _ W = .ok (.value (Value.int .i64 (k : Int))) W
      simp [execOp, g5, go_sem]
    · intro h a W hI hlo hhi hpos hvw hvr hst
      have g50 := ev_get (show a.eval (.tmp 50) = Value.slice (some ⟨gl, ol, none⟩) l.length c from hvr 1 50 _ (by decide +kernel) rfl rfl)
      have g51 := ev_get (show a.eval (.tmp 51) = Value.int .i64 (k : Int) from hvr 2 51 _ (by decide +kernel) rfl rfl)
      show (execOp a.eval _).run _ W = .ok (.value (Value.pointer (some ⟨gl, ol + k * 7, none⟩))) W
      simp [execOp, g50, g51, go_sem, i1, i2]
    · intro h a W hI hlo hhi hpos hvw hvr hst
      have g52 := ev_get (show a.eval (.tmp 52) = Value.pointer (some ⟨gl, ol + k * 7, none⟩) from hvr 3 52 _ (by decide +kernel) rfl rfl)
      show (execOp a.eval _).run _ W = .ok (.value (Value.pointer (some ⟨gl, ol + k * 7, none⟩))) W
      simp [execOp, g52, go_sem]
    · intro h a W hI hlo hhi hpos hvw hvr hst
      have g53 := ev_get (show a.eval (.tmp 53) = Value.pointer (some ⟨gl, ol + k * 7, none⟩) from hvr 4 53 _ (by decide +kernel) rfl rfl)
      have q := DI.fr hI (Nat.le_trans (hhi 1 18 rfl (by decide +kernel)) (by decide))
      have cq := q.cell HCF.out
      show (execOp a.eval _).run _ W = .ok (.value (Value.string file)) W
      simp [execOp, g53, go_sem, cq]
    · intro h a W hI hlo hhi hpos hvw hvr hst
      have g6 := ev_get (show a.eval (.tmp 6) = Value.pointer (some ⟨x, 0, none⟩) from hst 6 (by decide +kernel))
      show (execOp a.eval _).run _ W = .ok (.value (Value.pointer (some ⟨x, 0, none⟩))) W
      simp [execOp, g6, go_sem]
    · intro h a W hI hlo hhi hpos hvw hvr hst
      have g55 := ev_get (show a.eval (.tmp 55) = Value.pointer (some ⟨x, 0, none⟩) from hvr 6 55 _ (by decide +kernel) rfl rfl)
      have q := DI.fr hI (Nat.le_trans (hhi 1 18 rfl (by decide +kernel)) (by decide))
      have cq : World.cell? _ ⟨x, 0, none⟩ = some (.string name) := cell_of_at (q.at HPB.out) rfl
      show (execOp a.eval _).run _ W = .ok (.value (Value.string name)) W
      simp [execOp, g55, go_sem, cq]
    · intro h a W hI hlo hhi hpos hvw hvr hst
      have g6 := ev_get (show a.eval (.tmp 6) = Value.pointer (some ⟨x, 0, none⟩) from hst 6 (by decide +kernel))
      show (execOp a.eval _).run _ W = .ok (.value (Value.pointer (some ⟨x, 1, none⟩))) W
      simp [execOp, g6, go_sem]
    · intro h a W hI hlo hhi hpos hvw hvr hst
      have g57 := ev_get (show a.eval (.tmp 57) = Value.pointer (some ⟨x, 1, none⟩) from hvr 8 57 _ (by decide +kernel) rfl rfl)
      have q := DI.fr hI (Nat.le_trans (hhi 1 18 rfl (by decide +kernel)) (by decide))
      have cq : World.cell? _ ⟨x, 1, none⟩ = some (.string ns) := cell_of_at (q.at HPB.out) rfl
      show (execOp a.eval _).run _ W = .ok (.value (Value.string ns)) W
      simp [execOp, g57, go_sem, cq]
    · intro h a W hI hlo hhi hpos hvw hvr hst
      have g6 := ev_get (show a.eval (.tmp 6) = Value.pointer (some ⟨x, 0, none⟩) from hst 6 (by decide +kernel))
      show (execOp a.eval _).run _ W = .ok (.value (Value.pointer (some ⟨x, 2, none⟩))) W
      simp [execOp, g6, go_sem]
    · intro h a W hI hlo hhi hpos hvw hvr hst
      have g59 := ev_get (show a.eval (.tmp 59) = Value.pointer (some ⟨x, 2, none⟩) from hvr 10 59 _ (by decide +kernel) rfl rfl)
      have q := DI.fr hI (Nat.le_trans (hhi 1 18 rfl (by decide +kernel)) (by decide))
      have cq : World.cell? _ ⟨x, 2, none⟩ = some (.int .i64 r) := cell_of_at (q.at HPB.out) rfl
      show (execOp a.eval _).run _ W = .ok (.value (Value.int .i64 r)) W
      simp [execOp, g59, go_sem, cq]
    · intro h a W hI hlo hhi hpos hvw hvr hst
      have g60 := ev_get (show a.eval (.tmp 60) = Value.int .i64 r from hvr 11 60 _ (by decide +kernel) rfl rfl)
      show (execOp a.eval _).run _ W = .ok (.value (Value.int .u8 r)) W
      simp [execOp, g60, go_sem, hw1]
    · intro h a W hI hlo hhi hpos hvw hvr hst
      have g6 := ev_get (show a.eval (.tmp 6) = Value.pointer (some ⟨x, 0, none⟩) from hst 6 (by decide +kernel))
      show (execOp a.eval _).run _ W = .ok (.value (Value.pointer (some ⟨x, 3, none⟩))) W
      simp [execOp, g6, go_sem]
    · intro h a W hI hlo hhi hpos hvw hvr hst
      have g62 := ev_get (show a.eval (.tmp 62) = Value.pointer (some ⟨x, 3, none⟩) from hvr 13 62 _ (by decide +kernel) rfl rfl)
      have q := DI.fr hI (Nat.le_trans (hhi 1 18 rfl (by decide +kernel)) (by decide))
      have cq : World.cell? _ ⟨x, 3, none⟩ = some (.int .i64 gr) := cell_of_at (q.at HPB.out) rfl
      show (execOp a.eval _).run _ W = .ok (.value (Value.int .i64 gr)) W
      simp [execOp, g62, go_sem, cq]
    · intro h a W hI hlo hhi hpos hvw hvr hst
      have g63 := ev_get (show a.eval (.tmp 63) = Value.int .i64 gr from hvr 14 63 _ (by decide +kernel) rfl rfl)
      show (execOp a.eval _).run _ W = .ok (.value (Value.int .u16 gr)) W
      simp [execOp, g63, go_sem, hw2]
    · intro h a W hI hlo hhi hpos hvw hvr hst
      have g54 := ev_get (show a.eval (.tmp 54) = Value.string file from hvr 5 54 _ (by decide +kernel) rfl rfl)
      have g56 := ev_get (show a.eval (.tmp 56) = Value.string name from hvr 7 56 _ (by decide +kernel) rfl rfl)
      have g58 := ev_get (show a.eval (.tmp 58) = Value.string ns from hvr 9 58 _ (by decide +kernel) rfl rfl)
      have g61 := ev_get (show a.eval (.tmp 61) = Value.int .u8 r from hvr 12 61 _ (by decide +kernel) rfl rfl)
      have g64 := ev_get (show a.eval (.tmp 64) = Value.int .u16 gr from hvr 15 64 _ (by decide +kernel) rfl rfl)
      show (execOp a.eval _).run _ W = .ok (.value (Value.agg #[.string file, .string name, .string ns, .int .u8 r, .int .u16 gr, .slice none 0 0])) W
      simp [execOp, g54, g56, g58, g61, g64, go_sem]
    · intro h a W hI hlo hhi hpos hvw hvr hst
      obtain rfl := lst0 (hpos 0 rfl)
      have hB : Fresh V0 W := hI
      exact .inl ⟨.pointer (some ⟨W.heap.size, 0, none⟩), W.alloc (.cells #[.string ⟨#[]⟩, .string ⟨#[]⟩, .string ⟨#[]⟩, .int .u8 0, .int .u16 0, .slice none 0 0] 164), by simp [execOp, go_sem], W, hB, rfl, rfl⟩
    · intro h a W hI hlo hhi hpos hvw hvr hst
      obtain ⟨y0, rfl⟩ := lst1 (hpos 1 rfl)
      have g7 := ev_get (hvw 0 17 7 y0 rfl rfl rfl)
      have g65 := ev_get (show a.eval (.tmp 65) = Value.agg #[.string file, .string name, .string ns, .int .u8 r, .int .u16 gr, .slice none 0 0] from hvr 16 65 _ (by decide +kernel) rfl rfl)
      obtain ⟨W2, hB, rfl, rfl⟩ : ∃ W2 : World, Fresh V0 W2 ∧ W = W2.alloc (.cells #[.string ⟨#[]⟩, .string ⟨#[]⟩, .string ⟨#[]⟩, .int .u8 0, .int .u16 0, .slice none 0 0] 164) ∧ y0 = .pointer (some ⟨W2.heap.size, 0, none⟩) := hI
      exact .inr (.inl ⟨_, rfl, by simp [execOp, g7, g65, go_sem], W2, hB, rfl, rfl⟩)
    intro h a W hh hl
    obtain ⟨y0, y1, rfl⟩ := lst2 hl
    obtain ⟨W2, hf, rfl, rfl⟩ : ∃ W2 : World, Fresh V0 W2 ∧ W = W2.alloc (.cells #[.string file, .string name, .string ns, .int .u8 r, .int .u16 gr, .slice none 0 0] 164) ∧ y0 = .pointer (some ⟨W2.heap.size, 0, none⟩) := hh.inv
    have ha := act_lit (n := 122) (by rw [hh.size]; rfl) hh.defers
    have k0 := (hh.keep 0 (by decide +kernel)).trans (ev_lit3 rfl)
    have k1 := (hh.keep 1 (by decide +kernel)).trans (ev_lit3 rfl)
    have k2 := (hh.keep 2 (by decide +kernel)).trans (ev_lit3 rfl)
    have k3 := (hh.keep 3 (by decide +kernel)).trans (ev_lit3 rfl)
    have k4 := (hh.keep 4 (by decide +kernel)).trans (ev_lit3 rfl)
    have k5 := (hh.keep 5 (by decide +kernel)).trans (ev_lit3 rfl)
    have k6 := (hh.keep 6 (by decide +kernel)).trans (ev_lit3 rfl)
    have k10 := (hh.keep 10 (by decide +kernel)).trans (ev_lit3 rfl)
    have k11 := (hh.keep 11 (by decide +kernel)).trans (ev_lit3 rfl)
    have k12 := (hh.keep 12 (by decide +kernel)).trans (ev_lit3 rfl)
    have k121 := (hh.keep 121 (by decide +kernel)).trans (ev_lit3 rfl)
    have k7 := hh.vw 0 17 7 _ rfl rfl rfl
    simp only [List.range, List.range.loop, List.map_cons, List.map_nil, k7, k0, k1, k2, k3, k4, k5, k6, k10, k11, k12, k121] at ha
    clear k7 k0 k1 k2 k3 k4 k5 k6 k10 k11 k12 k121
    generalize a.eval (.tmp 8) = v8 at ha
    generalize a.eval (.tmp 9) = v9 at ha
    generalize a.eval (.tmp 13) = v13 at ha
    generalize a.eval (.tmp 14) = v14 at ha
    generalize a.eval (.tmp 15) = v15 at ha
    generalize a.eval (.tmp 16) = v16 at ha
    generalize a.eval (.tmp 17) = v17 at ha
    generalize a.eval (.tmp 18) = v18 at ha
    generalize a.eval (.tmp 19) = v19 at ha
    generalize a.eval (.tmp 20) = v20 at ha
    generalize a.eval (.tmp 21) = v21 at ha
    generalize a.eval (.tmp 22) = v22 at ha
    generalize a.eval (.tmp 23) = v23 at ha
    generalize a.eval (.tmp 24) = v24 at ha
    generalize a.eval (.tmp 25) = v25 at ha
    generalize a.eval (.tmp 26) = v26 at ha
    generalize a.eval (.tmp 27) = v27 at ha
    generalize a.eval (.tmp 28) = v28 at ha
    generalize a.eval (.tmp 29) = v29 at ha
    generalize a.eval (.tmp 30) = v30 at ha
    generalize a.eval (.tmp 31) = v31 at ha
    generalize a.eval (.tmp 32) = v32 at ha
    generalize a.eval (.tmp 33) = v33 at ha
    generalize a.eval (.tmp 34) = v34 at ha
    generalize a.eval (.tmp 35) = v35 at ha
    generalize a.eval (.tmp 36) = v36 at ha
    generalize a.eval (.tmp 37) = v37 at ha
    generalize a.eval (.tmp 38) = v38 at ha
    generalize a.eval (.tmp 39) = v39 at ha
    generalize a.eval (.tmp 40) = v40 at ha
    generalize a.eval (.tmp 41) = v41 at ha
    generalize a.eval (.tmp 42) = v42 at ha
    generalize a.eval (.tmp 43) = v43 at ha
    generalize a.eval (.tmp 44) = v44 at ha
    generalize a.eval (.tmp 45) = v45 at ha
    generalize a.eval (.tmp 46) = v46 at ha
    generalize a.eval (.tmp 47) = v47 at ha
    generalize a.eval (.tmp 48) = v48 at ha
    generalize a.eval (.tmp 49) = v49 at ha
    generalize a.eval (.tmp 50) = v50 at ha
    generalize a.eval (.tmp 51) = v51 at ha
    generalize a.eval (.tmp 52) = v52 at ha
    generalize a.eval (.tmp 53) = v53 at ha
    generalize a.eval (.tmp 54) = v54 at ha
    generalize a.eval (.tmp 55) = v55 at ha
    generalize a.eval (.tmp 56) = v56 at ha
    generalize a.eval (.tmp 57) = v57 at ha
    generalize a.eval (.tmp 58) = v58 at ha
    generalize a.eval (.tmp 59) = v59 at ha
    generalize a.eval (.tmp 60) = v60 at ha
    generalize a.eval (.tmp 61) = v61 at ha
    generalize a.eval (.tmp 62) = v62 at ha
    generalize a.eval (.tmp 63) = v63 at ha
    generalize a.eval (.tmp 64) = v64 at ha
    generalize a.eval (.tmp 65) = v65 at ha
    generalize a.eval (.tmp 66) = v66 at ha
    generalize a.eval (.tmp 67) = v67 at ha
    generalize a.eval (.tmp 68) = v68 at ha
    generalize a.eval (.tmp 69) = v69 at ha
    generalize a.eval (.tmp 70) = v70 at ha
    generalize a.eval (.tmp 71) = v71 at ha
    generalize a.eval (.tmp 72) = v72 at ha
    generalize a.eval (.tmp 73) = v73 at ha
    generalize a.eval (.tmp 74) = v74 at ha
    generalize a.eval (.tmp 75) = v75 at ha
    generalize a.eval (.tmp 76) = v76 at ha
    generalize a.eval (.tmp 77) = v77 at ha
    generalize a.eval (.tmp 78) = v78 at ha
    generalize a.eval (.tmp 79) = v79 at ha
    generalize a.eval (.tmp 80) = v80 at ha
    generalize a.eval (.tmp 81) = v81 at ha
    generalize a.eval (.tmp 82) = v82 at ha
    generalize a.eval (.tmp 83) = v83 at ha
    generalize a.eval (.tmp 84) = v84 at ha
    generalize a.eval (.tmp 85) = v85 at ha
    generalize a.eval (.tmp 86) = v86 at ha
    generalize a.eval (.tmp 87) = v87 at ha
    generalize a.eval (.tmp 88) = v88 at ha
    generalize a.eval (.tmp 89) = v89 at ha
    generalize a.eval (.tmp 90) = v90 at ha
    generalize a.eval (.tmp 91) = v91 at ha
    generalize a.eval (.tmp 92) = v92 at ha
    generalize a.eval (.tmp 93) = v93 at ha
    generalize a.eval (.tmp 94) = v94 at ha
    generalize a.eval (.tmp 95) = v95 at ha
    generalize a.eval (.tmp 96) = v96 at ha
    generalize a.eval (.tmp 97) = v97 at ha
    generalize a.eval (.tmp 98) = v98 at ha
    generalize a.eval (.tmp 99) = v99 at ha
    generalize a.eval (.tmp 100) = v100 at ha
    generalize a.eval (.tmp 101) = v101 at ha
    generalize a.eval (.tmp 102) = v102 at ha
    generalize a.eval (.tmp 103) = v103 at ha
    generalize a.eval (.tmp 104) = v104 at ha
    generalize a.eval (.tmp 105) = v105 at ha
    generalize a.eval (.tmp 106) = v106 at ha
    generalize a.eval (.tmp 107) = v107 at ha
    generalize a.eval (.tmp 108) = v108 at ha
    generalize a.eval (.tmp 109) = v109 at ha
    generalize a.eval (.tmp 110) = v110 at ha
    generalize a.eval (.tmp 111) = v111 at ha
    generalize a.eval (.tmp 112) = v112 at ha
    generalize a.eval (.tmp 113) = v113 at ha
    generalize a.eval (.tmp 114) = v114 at ha
    generalize a.eval (.tmp 115) = v115 at ha
    generalize a.eval (.tmp 116) = v116 at ha
    generalize a.eval (.tmp 117) = v117 at ha
    generalize a.eval (.tmp 118) = v118 at ha
    generalize a.eval (.tmp 119) = v119 at ha
    generalize a.eval (.tmp 120) = v120 at ha
    clear hh
    subst ha
    have HB0 : Hid (RD w b W2.heap.size x seq o k cp D #[.string file, .string name, .string ns, .int .u8 r, .int .u16 gr, .slice none 0 0] none 0 0 [] #[.string name, .string ns, .int .i64 r, .int .i64 gr, .bool false, .slice ca cs.length cap] #[.int .u64 seq, .slice (some ⟨gl, ol, none⟩) l.length c] (W2.alloc (.cells #[.string file, .string name, .string ns, .int .u8 r, .int .u16 gr, .slice none 0 0] 164))) := ⟨(HOV.out.fresh hf).pod _, at_alloc (hf.at HPB.out), at_alloc (hf.at HSB.out), lt_of_at (hf.at HPB.out), hsz3⟩
    clear hf
    refine hKK _ _ ?_
    generalize W2.alloc (.cells #[.string file, .string name, .string ns, .int .u8 r, .int .u16 gr, .slice none 0 0] 164) = V1 at *
    obtain ⟨y, hy⟩ : ∃ y, y = W2.heap.size := ⟨_, rfl⟩
    rw [← hy] at HB0 ⊢
    clear hy
    go_wp2_with (fail)
    have hxy : x < y := HB0.out.xy
    have hby : b + 2 < x := HB0.out.bx
    go_loopw [8] (fun a8 wv => ∃ (j : Nat) (a2 : Option Addr) (cc2 : Nat), a8 = .int .i64 (j : Int) ∧ j ≤ cs.length ∧ Hid (((cs.take j).map (·.c)).all mayC = true) ∧ Hid (RD w b y x seq o k cp D #[.string file, .string name, .string ns, .int .u8 r, .int .u16 gr, .slice a2 j cc2] a2 j cc2 ((cs.take j).map dnM) #[.string name, .string ns, .int .i64 r, .int .i64 gr, .bool false, .slice ca cs.length cap] #[.int .u64 seq, .slice (some ⟨gl, ol, none⟩) l.length c] wv)) (fun a8 _ => cs.length - (intOf a8).toNat)
    case atStart => exact ⟨0, none, 0, rfl, Nat.zero_le _, rfl, HB0.out⟩
    case round =>
    clear HB0 HOS HBX HOV HPB HSB HCF
    obtain ⟨j, a2, cc2, rfl, hj, HALC, HB⟩ := hrel
    have p5 : wr.cell? ⟨x, 5, none⟩ = some (.slice ca cs.length cap) := cell_of_at HB.out.pb rfl
    by_cases hjlt : j < cs.length
    case pos =>
      obtain ⟨gc, oc, rfl, hcc⟩ := crow_form1 (HIN.out.move HB.out.op.fr) hjlt
      obtain ⟨c0, c1, c2, c3, c4, c5, c6⟩ := hcc j hjlt
      have hjc : j < (cs.map (·.c)).length := by rw [List.length_map]; exact hjlt
      have hjg : (cs.map (·.c))[j] = cs[j].c := by rw [List.getElem_map]
      have HTC : Hid (c2s ((cs.take (j + 1)).map dnM) = c2s ((cs.take j).map dnM) ++ (dnM cs[j]).cells) := by rw [Hid, List.take_succ_eq_append_getElem hjlt, List.map_append, List.map_cons, List.map_nil, c2s_snoc1]
      have HACJ : Hid (mayC cs[j].c = true → ((cs.take (j + 1)).map (·.c)).all mayC = true) := fun h => by
        have h1 := HALC.out
        rw [List.map_take] at h1 ⊢
        exact all_take mayC _ j hjc h1 (by rw [hjg]; exact h)
      have HBDJ : Hid (mayC cs[j].c = false → M = false) := fun h => HBD.out (all_bad mayC _ j hjc (by rw [hjg]; exact h))
      have hys : y < wr.heap.size := lt_of_at HB.out.op.p
      clear hcc hjc hjg
      generalize cs[j] = cj at *
      obtain ⟨⟨s0, s1, lc, lp, n4, n5, le⟩, ka, kc, pa, pc, ea, ec⟩ := cj
      dsimp only [dnM, dnC, C2.cells] at *
      have i1 : (0 : Int) ≤ (j : Int) := by omega
      have i2 : (j : Int) < (cs.length : Int) := by omega
      have HRX := Lib.hid (HB.out.fresh ((Fresh.refl wr).alloc (.cells #[.string s0, .string s1, .slice ka lc.length kc, .slice pa lp.length pc, .int .i64 n4, .int .i64 n5, .slice ea le.length ec] 115)))
      cases hmc : mayC ⟨s0, s1, lc, lp, n4, n5, le⟩ with
      | false =>
        have HMF : M = false := HBDJ.out hmc
        clear HACJ HBDJ HBD HAK
        rcases mayC_bad hmc with h1 | ⟨h1, h2⟩ | ⟨h1, h2, h3⟩ | ⟨h1, h2, h3, h4⟩ | ⟨h1, h2, h3, h4, h5⟩
        all_goals dsimp only at *
        all_goals clear hmc
        · have e1 : decide ((0 : Int) < (lc.length : Int)) = true := decide_eq_true (by omega)
          have e1n : decide (0 < lc.length) = true := decide_eq_true (by omega)
          clear h1
          have r0 := cell_of_at HRX.out.op.toOS.r (i := 0) rfl
          have r1 := cell_of_at HRX.out.op.toOS.r (i := 1) rfl
          have f0 := frozen_of_at HRX.out.op.toOS.r 0
          have f1 := frozen_of_at HRX.out.op.toOS.r 1
          have hp := at_set (at_set HRX.out.op.toOS.r 0 (.int .u64 0)) 1 (.slice none 0 0)
          simp only [List.setIfInBounds_toArray, List.set_cons_zero, List.set_cons_succ] at hp
          have s0 := cell_of_at hp (i := 0) rfl
          have s1 := cell_of_at hp (i := 1) rfl
          clear hp
          go_wp2
          all_goals try (exfalso; omega)
          exact bodyPost_ret (v := .tuple #[.agg #[.int .u64 0, .slice none 0 0], .bool false]) (by simp [results, Tryz.results36, go_sem, *]) rfl (.inr ⟨HMF, rfl, (HRX.out.op.fr.setCell (p := ⟨b + 1, 0, none⟩) (by have := HRX.out.op.toOS.hb; show _ ≤ b + 1; omega) _).setCell (p := ⟨b + 1, 1, none⟩) (by have := HRX.out.op.toOS.hb; show _ ≤ b + 1; omega) _⟩)
        · have e1 : decide ((0 : Int) < (lc.length : Int)) = false := decide_eq_false (by omega)
          have e1n : decide (0 < lc.length) = false := decide_eq_false (by omega)
          have e2 : decide ((0 : Int) < (lp.length : Int)) = true := decide_eq_true (by omega)
          have e2n : decide (0 < lp.length) = true := decide_eq_true (by omega)
          clear h1 h2
          have r0 := cell_of_at HRX.out.op.toOS.r (i := 0) rfl
          have r1 := cell_of_at HRX.out.op.toOS.r (i := 1) rfl
          have f0 := frozen_of_at HRX.out.op.toOS.r 0
          have f1 := frozen_of_at HRX.out.op.toOS.r 1
          have hp := at_set (at_set HRX.out.op.toOS.r 0 (.int .u64 0)) 1 (.slice none 0 0)
          simp only [List.setIfInBounds_toArray, List.set_cons_zero, List.set_cons_succ] at hp
          have s0 := cell_of_at hp (i := 0) rfl
          have s1 := cell_of_at hp (i := 1) rfl
          clear hp
          go_wp2
          all_goals try (exfalso; omega)
          exact bodyPost_ret (v := .tuple #[.agg #[.int .u64 0, .slice none 0 0], .bool false]) (by simp [results, Tryz.results36, go_sem, *]) rfl (.inr ⟨HMF, rfl, (HRX.out.op.fr.setCell (p := ⟨b + 1, 0, none⟩) (by have := HRX.out.op.toOS.hb; show _ ≤ b + 1; omega) _).setCell (p := ⟨b + 1, 1, none⟩) (by have := HRX.out.op.toOS.hb; show _ ≤ b + 1; omega) _⟩)
        · have e1 : decide ((0 : Int) < (lc.length : Int)) = false := decide_eq_false (by omega)
          have e1n : decide (0 < lc.length) = false := decide_eq_false (by omega)
          have e2 : decide ((0 : Int) < (lp.length : Int)) = false := decide_eq_false (by omega)
          have e2n : decide (0 < lp.length) = false := decide_eq_false (by omega)
          have e3 : decide ((0 : Int) < (le.length : Int)) = true := decide_eq_true (by omega)
          have e3n : decide (0 < le.length) = true := decide_eq_true (by omega)
          clear h1 h2 h3
          have r0 := cell_of_at HRX.out.op.toOS.r (i := 0) rfl
          have r1 := cell_of_at HRX.out.op.toOS.r (i := 1) rfl
          have f0 := frozen_of_at HRX.out.op.toOS.r 0
          have f1 := frozen_of_at HRX.out.op.toOS.r 1
          have hp := at_set (at_set HRX.out.op.toOS.r 0 (.int .u64 0)) 1 (.slice none 0 0)
          simp only [List.setIfInBounds_toArray, List.set_cons_zero, List.set_cons_succ] at hp
          have s0 := cell_of_at hp (i := 0) rfl
          have s1 := cell_of_at hp (i := 1) rfl
          clear hp
          go_wp2
          all_goals try (exfalso; omega)
          exact bodyPost_ret (v := .tuple #[.agg #[.int .u64 0, .slice none 0 0], .bool false]) (by simp [results, Tryz.results36, go_sem, *]) rfl (.inr ⟨HMF, rfl, (HRX.out.op.fr.setCell (p := ⟨b + 1, 0, none⟩) (by have := HRX.out.op.toOS.hb; show _ ≤ b + 1; omega) _).setCell (p := ⟨b + 1, 1, none⟩) (by have := HRX.out.op.toOS.hb; show _ ≤ b + 1; omega) _⟩)
        · have e1 : decide ((0 : Int) < (lc.length : Int)) = false := decide_eq_false (by omega)
          have e1n : decide (0 < lc.length) = false := decide_eq_false (by omega)
          have e2 : decide ((0 : Int) < (lp.length : Int)) = false := decide_eq_false (by omega)
          have e2n : decide (0 < lp.length) = false := decide_eq_false (by omega)
          have e3 : decide ((0 : Int) < (le.length : Int)) = false := decide_eq_false (by omega)
          have e3n : decide (0 < le.length) = false := decide_eq_false (by omega)
          have e4 : (n4 != 100) = true := by simpa using h4
          clear h1 h2 h3 h4
          have r0 := cell_of_at HRX.out.op.toOS.r (i := 0) rfl
          have r1 := cell_of_at HRX.out.op.toOS.r (i := 1) rfl
          have f0 := frozen_of_at HRX.out.op.toOS.r 0
          have f1 := frozen_of_at HRX.out.op.toOS.r 1
          have hp := at_set (at_set HRX.out.op.toOS.r 0 (.int .u64 0)) 1 (.slice none 0 0)
          simp only [List.setIfInBounds_toArray, List.set_cons_zero, List.set_cons_succ] at hp
          have s0 := cell_of_at hp (i := 0) rfl
          have s1 := cell_of_at hp (i := 1) rfl
          clear hp
          go_wp2
          all_goals try (exfalso; omega)
          exact bodyPost_ret (v := .tuple #[.agg #[.int .u64 0, .slice none 0 0], .bool false]) (by simp [results, Tryz.results36, go_sem, *]) rfl (.inr ⟨HMF, rfl, (HRX.out.op.fr.setCell (p := ⟨b + 1, 0, none⟩) (by have := HRX.out.op.toOS.hb; show _ ≤ b + 1; omega) _).setCell (p := ⟨b + 1, 1, none⟩) (by have := HRX.out.op.toOS.hb; show _ ≤ b + 1; omega) _⟩)
        · have e1 : decide ((0 : Int) < (lc.length : Int)) = false := decide_eq_false (by omega)
          have e1n : decide (0 < lc.length) = false := decide_eq_false (by omega)
          have e2 : decide ((0 : Int) < (lp.length : Int)) = false := decide_eq_false (by omega)
          have e2n : decide (0 < lp.length) = false := decide_eq_false (by omega)
          have e3 : decide ((0 : Int) < (le.length : Int)) = false := decide_eq_false (by omega)
          have e3n : decide (0 < le.length) = false := decide_eq_false (by omega)
          have e4 : (n4 != 100) = false := by simpa using h4
          have e5 : (n5 != 64) = true := by simpa using h5
          clear h1 h2 h3 h4 h5
          have r0 := cell_of_at HRX.out.op.toOS.r (i := 0) rfl
          have r1 := cell_of_at HRX.out.op.toOS.r (i := 1) rfl
          have f0 := frozen_of_at HRX.out.op.toOS.r 0
          have f1 := frozen_of_at HRX.out.op.toOS.r 1
          have hp := at_set (at_set HRX.out.op.toOS.r 0 (.int .u64 0)) 1 (.slice none 0 0)
          simp only [List.setIfInBounds_toArray, List.set_cons_zero, List.set_cons_succ] at hp
          have s0 := cell_of_at hp (i := 0) rfl
          have s1 := cell_of_at hp (i := 1) rfl
          clear hp
          go_wp2
          all_goals try (exfalso; omega)
          exact bodyPost_ret (v := .tuple #[.agg #[.int .u64 0, .slice none 0 0], .bool false]) (by simp [results, Tryz.results36, go_sem, *]) rfl (.inr ⟨HMF, rfl, (HRX.out.op.fr.setCell (p := ⟨b + 1, 0, none⟩) (by have := HRX.out.op.toOS.hb; show _ ≤ b + 1; omega) _).setCell (p := ⟨b + 1, 1, none⟩) (by have := HRX.out.op.toOS.hb; show _ ≤ b + 1; omega) _⟩)
      | true =>
        have HALC := Lib.hid (HACJ.out hmc)
        obtain ⟨h1, h2, h3, h4, h5⟩ := mayC_ok hmc
        dsimp only at h1 h2 h3 h4 h5
        have e1 : decide ((0 : Int) < (lc.length : Int)) = false := decide_eq_false (by omega)
        have e1n : decide (0 < lc.length) = false := decide_eq_false (by omega)
        have e2 : decide ((0 : Int) < (lp.length : Int)) = false := decide_eq_false (by omega)
        have e2n : decide (0 < lp.length) = false := decide_eq_false (by omega)
        have e3 : decide ((0 : Int) < (le.length : Int)) = false := decide_eq_false (by omega)
        have e3n : decide (0 < le.length) = false := decide_eq_false (by omega)
        have e4 : (n4 != 100) = false := by simpa using h4
        have e5 : (n5 != 64) = false := by simpa using h5
        clear HACJ HBDJ hmc h1 h2 h3 h4 h5
        have HN : Hid (∀ j u, [Value.string s0, .string s1][j]? = some u → ((wr.alloc (.cells #[.string s0, .string s1, .slice ka lc.length kc, .slice pa lp.length pc, .int .i64 n4, .int .i64 n5, .slice ea le.length ec] 115)).alloc (.cells #[.string s0, .string s1] 165)).cell? ((⟨wr.heap.size + 1, 0, none⟩ : Addr).add j) = some u) := by
          have := news7 (wr.alloc (.cells #[.string s0, .string s1, .slice ka lc.length kc, .slice pa lp.length pc, .int .i64 n4, .int .i64 n5, .slice ea le.length ec] 115)) 165 [.string s0, .string s1]
          rw [World.size_alloc] at this
          exact this
        have HRY := Lib.hid (HRX.out.fresh ((Fresh.refl _).alloc (.cells #[.string s0, .string s1] 165)))
        have v5 := cell_of_at HRX.out.op.p (i := 5) rfl
        have w5 := cell_of_at HRY.out.op.p (i := 5) rfl
        go_wp2_with (at_builtin; refine Hid.out ?_)
        all_goals try (exfalso; omega)
        refine Lib.hid ?_
        refine wpList_append_own _ rfl _ _ 162 rfl (y + 1) 165 ic1 (.agg #[.string ⟨#[]⟩, .string ⟨#[]⟩]) 2 32 Tryz.underlying162 hic hic0 hic1 hic2 rfl (by decide) _ j _ rfl HRY.out.op.crow ⟨wr.heap.size + 1, 0, none⟩ 1 1 [.string s0, .string s1] rfl rfl HN.out (by simp [Value.oneCell']) (by unfold maxLen; omega) (by omega) (by rw [World.size_alloc, World.size_alloc]; omega) ?_
        intro v' w3 hown' hgrow _
        obtain ⟨g', cap', rfl⟩ := ownsRow_succ hown'
        have HRZ := Lib.hid (HRY.out.grownC (E' := (cs.take (j + 1)).map dnM) hgrow (by rw [HTC.out]; exact hown'))
        have z5 := cell_of_at HRZ.out.op.p (i := 5) rfl
        have zf := frozen_of_at HRZ.out.op.p 5
        clear hown' hgrow c0 c1 c2 c3 c4 c5 c6 p5 w5 v5
        go_wp2
        go_roundw
        case rel => exact ⟨j + 1, some ⟨g', 0, none⟩, cap', by simp, by omega, HALC.out, HRZ.out.set 5 _⟩
        case measure => simp [intOf]; omega
    case neg =>
      obtain rfl : j = cs.length := by omega
      have HB : Hid (RD w b y x seq o k cp D #[.string file, .string name, .string ns, .int .u8 r, .int .u16 gr, .slice a2 cs.length cc2] a2 cs.length cc2 (cs.map dnM) #[.string name, .string ns, .int .i64 r, .int .i64 gr, .bool false, .slice ca cs.length cap] #[.int .u64 seq, .slice (some ⟨gl, ol, none⟩) l.length c] wr) := by
        have := HB.out
        rw [List.take_length] at this; exact this
      have hall : (cs.map (·.c)).all mayC = true := by
        have := HALC.out
        rw [List.take_length] at this; exact this
      have HALK := Lib.hid (HAK.out hall)
      have q1 := cell_of_at HB.out.op.st (i := 1) rfl
      have d0 := cell_of_at HB.out.op.p (i := 0) rfl
      have d1' := cell_of_at HB.out.op.p (i := 1) rfl
      have d2' := cell_of_at HB.out.op.p (i := 2) rfl
      have d3' := cell_of_at HB.out.op.p (i := 3) rfl
      have d4' := cell_of_at HB.out.op.p (i := 4) rfl
      have d5 := cell_of_at HB.out.op.p (i := 5) rfl
      have hys : y < wr.heap.size := lt_of_at HB.out.op.p
      clear hall HAK HBD HALC
      have HN := Lib.hid (news7 wr 164 [.string file, .string name, .string ns, .int .u8 r, .int .u16 gr, .slice a2 cs.length cc2])
      go_wp2_with (at_builtin; refine Hid.out ?_)
      all_goals try (exfalso; omega)
      refine Lib.hid ?_
      refine wpList_append_own _ rfl _ _ 73 rfl (b + 3) 164 i0 (.agg #[.string ⟨#[]⟩, .string ⟨#[]⟩, .string ⟨#[]⟩, .int .u8 0, .int .u16 0, .slice none 0 0]) 6 80 Tryz.underlying73 hi hz0 hz1 hz2 rfl (by decide) _ k _ rfl (World.ownsRow.alloc HB.out.op.row _) ⟨wr.heap.size, 0, none⟩ 1 1 [.string file, .string name, .string ns, .int .u8 r, .int .u16 gr, .slice a2 cs.length cc2] rfl rfl HN.out (by simp [Value.oneCell']) (by unfold maxLen; omega) (by omega) (by rw [World.size_alloc]; omega) ?_
      intro v' w8 hown' hgrow _
      obtain ⟨g', cap', rfl⟩ := ownsRow_succ hown'
      have HND : Hid (OS w (w8.setCell ⟨b + 2, 1, none⟩ (.slice (some ⟨g', 0, none⟩) (k + 1) cap')) b seq (some ⟨g', 0, none⟩) (k + 1) cap' (D ++ [(⟨⟨file, name, ns, r, gr, cs.map dnM⟩, a2, cc2⟩ : M2)])) :=
        (HB.out.op.fresh ((Fresh.refl wr).alloc _)).grownP (m := ⟨⟨file, name, ns, r, gr, cs.map dnM⟩, a2, cc2⟩) (by simp) (by simp) rfl hgrow (by rw [m2s_snoc]; dsimp only; rw [List.length_map]; exact hown')
      have hlt8 : ∀ g, (Value.slice o k cp).ownBlock = some g → b + 3 ≤ g := fun g e => (World.ownsRow.lt HB.out.op.row g e).1
      have hb2 := (hgrow.block (b + 2) (by rw [World.size_alloc]; omega) (fun e => by have := hlt8 (b + 2) e.symm; omega)).trans (at_alloc HB.out.op.st)
      have HB8 := Lib.hid ((hgrow.block b (by rw [World.size_alloc]; omega) (fun e => by have := hlt8 b e.symm; omega)).trans (at_alloc HB.out.sb))
      have k1 := cell_of_at hb2 (i := 1) rfl
      have kf := frozen_of_at hb2 1
      clear hown' hgrow hb2 hlt8 q1 d0 d1' d2' d3' d4' d5 p5
      go_wp2
      go_roundw
      case rel =>
        refine ⟨k + 1, some ⟨g', 0, none⟩, cap', D ++ [(⟨⟨file, name, ns, r, gr, cs.map dnM⟩, a2, cc2⟩ : M2)], by simp, by omega, ?_, ?_, HALK.out, at_off HB8.out (by omega) _, HND.out⟩
        · rw [Hid, List.length_append, HD.out]; rfl
        · rw [Hid, pods2_snoc, HPD.out, HTK.out]
          have er : r % 256 = r := by omega
          have eg : gr % 65536 = gr := by omega
          simp [M3.p, PM.pd, dn, Function.comp_def, dnM, er, eg]
      case measure => simp [intOf]; omega
  case neg =>
    obtain rfl : k = l.length := by omega
    have z0 := cell_of_at HOS.out.st (i := 0) rfl
    have z1 := cell_of_at HOS.out.st (i := 1) rfl
    have r0 := cell_of_at HOS.out.r (i := 0) rfl
    have r1 := cell_of_at HOS.out.r (i := 1) rfl
    have f0 := frozen_of_at HOS.out.r 0
    have f1 := frozen_of_at HOS.out.r 1
    have hp := at_set (at_set HOS.out.r 0 (.int .u64 seq)) 1 (.slice o l.length cp)
    simp only [List.setIfInBounds_toArray, List.set_cons_zero, List.set_cons_succ] at hp
    have s0 := cell_of_at hp (i := 0) rfl
    have s1 := cell_of_at hp (i := 1) rfl
    clear hp
    have HMT : M = true := by
      rw [HM.out]
      have := HAL.out
      rw [List.take_of_length_le (by simp [pods3])] at this
      exact this
    have HP : Hid (pods2 D = (pods3 l).map dn) := by
      have := HPD.out
      rw [List.take_of_length_le (by simp [pods3])] at this
      exact this
    go_wp2
    all_goals try (exfalso; omega)
    have hpl : (pods3 l).length = l.length := pods3_length l
    refine bodyPost_ret (v := .tuple #[.agg #[.int .u64 seq, .slice o l.length cp], .bool true]) (by simp [results, Tryz.results36, go_sem, *]) rfl (.inl ⟨HMT, o, cp, by rw [hpl]; rfl, ?_⟩)
    rw [← HP.out]
    exact HOS.out.done _ _
theorem rdown_any (seq : Int) (a : Option Addr) (L : List P3) (c : Nat) (w : World) (h : AtL L w a) (hl : L.length ≤ 1048576) (hlo : ∀ p ∈ L, p.Lo) :
    Calls Tryz.prog 36 #[st3 seq a L.length c] w (DownIs (L.all may) seq L w) := by
  obtain ⟨D, rfl, hr⟩ := h
  rw [pods3_length] at hl ⊢
  exact rdown_m seq a D c w hr (by omega) (fun m hm => Nat.le_trans (hlo _ (pods3_mem hm)).low.len (by decide))
end Go.Proofs.YtldncgelghcjeaaGreatDoor.K

/-
  A pod that package ckthree takes (printed by genc3.py.txt).
  What package ckthree's Decode returns (printed by genc3.py.txt).
-/
import Derived.Test.YtmomlgkpdoapoaaGreatDoorCat25
import Derived.Test.YtmomlgkpdoapoaaGreatDoorCat12
set_option linter.unusedSimpArgs false
set_option linter.unusedVariables false
namespace Go.Proofs.YtmomlgkpdoapoaaGreatDoor.K
open Go.ChangeShapes Go.WideShapes Go.ChangeAt Go.RowKit
set_option maxRecDepth 100000
set_option linter.unusedSimpArgs false

theorem infoCt : (Tryz.prog.info? 94).map (fun i => (i.zero, i.size, i.bytes)) = some (some (.agg #[.string ⟨#[]⟩, .string ⟨#[]⟩, .slice none 0 0, .slice none 0 0, .int .i64 0, .int .i64 0, .slice none 0 0]), 7, 120) := by kernel_rfl
theorem COwn.fr {z : Nat} {S T : TypeId} {W W' : World} {q : CM} {cz : Array Value} (h : COwn W q) (f : Fr z T W W') (hz : W.heap[z]? = some (.cells cz S)) (h1 : 9 ≠ S) (h2 : 97 ≠ S) (h3 : 98 ≠ S) (h4 : 9 ≠ T) (h5 : 97 ≠ T) (h6 : 98 ≠ T) : COwn W' q :=
  ⟨own_fr h.cmd f hz (by decide) h1 h4, own_fr h.ports f hz (by decide) h2 h5, own_fr h.env f hz (by decide) h3 h6⟩
theorem COwn.set {z i : Nat} {S : TypeId} {W : World} {q : CM} {cz : Array Value} (h : COwn W q) (hz : W.heap[z]? = some (.cells cz S)) (h1 : 9 ≠ S) (h2 : 97 ≠ S) (h3 : 98 ≠ S) (u : Value) : COwn (W.setCell ⟨z, i, none⟩ u) q :=
  ⟨own_type h.cmd hz h1 i u, own_type h.ports hz h2 i u, own_type h.env hz h3 i u⟩
theorem COwn.inn {W : World} {q : CM} (h : COwn W q) : q.In W := ⟨RowAt.owns h.cmd, RowAt.owns h.ports, RowAt.owns h.env, own_le h.ports⟩
attribute [-go_sem] Go.Builtin.append_ in
set_option maxHeartbeats 4000000 in
theorem pod_step (b p z : Nat) (name ns : ByteArray) (r0 g0 : Int) (host : Bool) (w0 : World) (hb : b < w0.heap.size) (hzw : w0.heap.size ≤ z) :
    LStep ct3T (·.c) CM.cells COwn b p z 41 94 7 (fun v => #[.string name, .string ns, .int .i64 r0, .int .i64 g0, .bool host, v]) w0 74 := by
  intro k o c D wL s W0 s' e' x hk hs hP hx
  obtain ⟨i0, hi, hz0, hz1, hz2⟩ := info_parts infoCt
  go_enter Tryz.func74, Tryz.ntmps74
  go_wp2_with (fail)
  refine chain_region [3, 4, 5, 7] [some (Value.pointer (some ⟨z, 5, none⟩)), some (Value.slice o k c), some (Value.pointer (some ⟨b, 0, none⟩)), none, none, none, some (Value.pointer (some ⟨z, 5, none⟩)), none] (LayI b p z 5 41 94 7 k ((fun v => #[.string name, .string ns, .int .i64 r0, .int .i64 g0, .bool host, v]) (.slice o k c)) (.slice o k c) (D.flatMap CM.cells) w0 W0 1 [(s, 0), (s', e')] (fun x => [x.val]) (fun x => x.cells) (fun (q : Nat) (y : CM) (V : World) => q = 1 → COwn V y ∧ (e' = 0 → y.c = x))) mixed3 (n := 9) rfl (by decide +kernel) (ms := [true, true, true, false, false, false, true, false]) rfl (by decide +kernel) (LayI.start (⟨⟨⟨#[]⟩, ⟨#[]⟩, [], [], 0, 0, []⟩, none, 0, none, 0, none, 0⟩) (Ph.drew ⟨hP.mv, hP.pt, hP.bx, hP.own, .refl _ _ _⟩) rfl (fun h => absurd h (by decide))) ⟨?_, ?_, ?_, ?_, ?_, ?_, ?_, ?_, trivial⟩ ?_
  · intro h a W hI hlo hhi hpos hvw hvr hst
    have g0 := ev_get (show a.eval (.tmp 0) = Value.pointer (some ⟨z, 0, none⟩) from hst 0 (by decide +kernel))
    show (execOp a.eval _).run _ W = .ok (.value (Value.pointer (some ⟨z, 5, none⟩))) W
    simp [execOp, g0, go_sem]
  · intro h a W hI hlo hhi hpos hvw hvr hst
    have g2 := ev_get (show a.eval (.tmp 2) = Value.pointer (some ⟨z, 5, none⟩) from hvr 0 2 _ (by decide +kernel) rfl rfl)
    have q := LayI.bx hI (hhi 2 5 rfl (by decide +kernel))
    have cq := cell_of_at q.1 (i := 5) rfl
    show (execOp a.eval _).run _ W = .ok (.value (Value.slice o k c)) W
    simp [execOp, g2, go_sem, cq]
  · intro h a W hI hlo hhi hpos hvw hvr hst
    have g1 := ev_get (show a.eval (.tmp 1) = Value.pointer (some ⟨p, 0, none⟩) from hst 1 (by decide +kernel))
    have q := LayI.bx hI (Nat.le_trans (hhi 0 3 rfl (by decide +kernel)) (by decide))
    have cq := cell_of_at q.2 (i := 0) rfl
    show (execOp a.eval _).run _ W = .ok (.value (Value.pointer (some ⟨b, 0, none⟩))) W
    simp [execOp, g1, go_sem, cq]
  · intro h a W hI hlo hhi hpos hvw hvr hst
    obtain rfl := lst0 (hpos 0 rfl)
    have g4 := ev_get (show a.eval (.tmp 4) = Value.pointer (some ⟨b, 0, none⟩) from hvr 2 4 _ (by decide +kernel) rfl rfl)
    refine .inr (.inr ⟨75, #[.pointer (some ⟨b, 0, none⟩)], by simp [execOp, g4, go_sem], (cont3_any b s s' 0 e' x W hs (LayI.ph hI (by simp) rfl).mv.isT hx).mono ?_⟩)
    rintro r V ⟨q, rfl, hqc, hqo, hm⟩
    exact ⟨_, rfl, LayI.more hI (by simp) rfl ((LayI.ph hI (by simp) rfl).call hm hb (by decide)) (fun _ => q) (fun _ _ _ => ⟨fun q hq => absurd hq (by simp), rfl, fun _ => ⟨hqo, hqc⟩⟩)⟩
  · intro h a W hI hlo hhi hpos hvw hvr hst
    obtain ⟨y0, rfl⟩ := lst1 (hpos 1 rfl)
    have g5 := ev_get (hvw 0 3 5 y0 rfl rfl rfl)
    obtain ⟨u, s9, e9, q0, q1, q2, q3⟩ := LayI.last hI rfl
    obtain rfl : y0 = u.val := by simpa using q0 0 _ rfl (by simp)
    exact .inl ⟨.slice (some ⟨W.heap.size, 0, none⟩) 1 1, W.alloc (.cells u.cells.toArray 94), by simp [execOp, g5, go_sem, CM.val, CM.cells], LayI.slice (x := u) rfl (by simp) q0 q1 q2 q3⟩
  · intro h a W hI hlo hhi hpos hvw hvr hst
    obtain ⟨y0, y1, rfl⟩ := lst2 (hpos 2 rfl)
    have g3 := ev_get (show a.eval (.tmp 3) = Value.slice o k c from hvr 1 3 _ (by decide +kernel) rfl rfl)
    have g6 := ev_get (hvw 1 4 6 y1 rfl rfl rfl)
    obtain ⟨y, g, cap, w3, q0, hrun, hL⟩ := LayI.app (tl := 39) (fun _ => by simp) rfl Tryz.underlying39 hi hz0 hz1 hz2 rfl (by decide) hb hzw (by decide) (fun _ => rfl) (fun _ => by simp [Value.oneCell', CM.cells]) (by omega) (by omega) hI rfl
    obtain rfl : y1 = y := by simpa using q0
    exact .inl ⟨_, w3, by simp [execOp, g3, g6, go_sem, hrun], hL⟩
  · intro h a W hI hlo hhi hpos hvw hvr hst
    have g0 := ev_get (show a.eval (.tmp 0) = Value.pointer (some ⟨z, 0, none⟩) from hst 0 (by decide +kernel))
    show (execOp a.eval _).run _ W = .ok (.value (Value.pointer (some ⟨z, 5, none⟩))) W
    simp [execOp, g0, go_sem]
  · intro h a W hI hlo hhi hpos hvw hvr hst
    obtain ⟨y0, y1, y2, rfl⟩ := lst3 (hpos 3 rfl)
    have g7 := ev_get (hvw 2 5 7 y2 rfl rfl rfl)
    have g8 := ev_get (show a.eval (.tmp 8) = Value.pointer (some ⟨z, 5, none⟩) from hvr 6 8 _ (by decide +kernel) rfl rfl)
    obtain ⟨g, cap, q0, hz, hL⟩ := LayI.store (fun _ => by simp) hI rfl
    obtain rfl : y2 = _ := by simpa using q0
    have cq := cell_of_at hz (i := 5) rfl
    have f := frozen_of_at hz 5
    exact .inr (.inl ⟨_, rfl, by simp [execOp, g7, g8, go_sem, cq, f], hL⟩)
  intro h a W hh hl
  obtain ⟨x9, W2, g, cap, hE, hP2, hfr, hPf⟩ := LayI.fin hh.inv hl rfl (by decide) (by decide)
  
  refine bodyPost_end (results_none rfl _ _ _) hh.defers ?_
  obtain ⟨ho, hc⟩ := hE (by decide)
  refine ⟨rfl, g, cap, x9, ⟨hPf.mv, hPf.pt, hPf.bx, by rw [flat_snoc]; exact hPf.own, hP.fr.trans hPf.fr⟩, hc, ho.fr hfr hP2.bx (by decide) (by decide) (by decide) (by decide) (by decide) (by decide), hPf.fr⟩

/-! ### what stands while a pod's names are taken -/
structure NamB (b p r : Nat) (RZ : Obj) (w : World) (s : ByteArray) (e : Int) (W : World) : Prop where
  mv : Moved b w W s e
  pt : W.heap[p]? = some (.cells #[.pointer (some ⟨b, 0, none⟩)] 102)
  rz : W.heap[r]? = some RZ
section
variable {b p r n0 : Nat} {w W W' : World} {s s' : ByteArray} {e e' : Int} {u : Option Value} {RZ ZO NO : Obj} {m : Nat} {st : List (ByteArray × Int)} {xv : List Value} {h : List Value}
theorem NamB.call (h : NamB b p r RZ w s e W) (m : Moved b W W' s' e') (hb : b < w.heap.size) (hr : r ≠ b) : NamB b p r RZ w s' e' W' := by
  have h0 := h.mv.isT
  unfold atT at h0
  exact ⟨h.mv.trans m, m.at h.pt (fun e2 => by have h1 := h.pt; rw [e2, h0] at h1; cases h1), m.at h.rz hr⟩
theorem NamB.alloc (h : NamB b p r RZ w s e W) (o : Obj) : NamB b p r RZ w s e (W.alloc o) := ⟨h.mv.fresh (atT_lt h.mv.isT) ((Fresh.refl W).alloc o), at_alloc h.pt, at_alloc h.rz⟩
def FrmI (b p r n0 : Nat) (w : World) (RZ ZO NO : Obj) (m : Nat) (st : List (ByteArray × Int)) (xv : List Value) (h : List Value) (u : Option Value) (W : World) : Prop :=
  (r ≠ b ∧ p < n0 ∧ r < n0) ∧ (∀ (q : Nat) (y : Value), xv[q]? = some y → q < h.length → h[q]? = some y) ∧ ∃ s e, NamB b p r RZ w s e W ∧ (h.length ≤ m → st[h.length]? = some (s, e) ∧ Free0 n0 u ZO W) ∧
    (h.length = m + 1 → st[m]? = some (s, e) ∧ ∃ zz, u = some (.pointer (some ⟨zz, 0, none⟩)) ∧ n0 ≤ zz ∧ W.heap[zz]? = some NO)
theorem FrmI.start (hB : NamB b p r RZ w s e W) (hx : r ≠ b ∧ p < n0 ∧ r < n0) (h0 : st[0]? = some (s, e)) : FrmI b p r n0 w RZ ZO NO m st xv [] none W :=
  ⟨hx, fun q y _ hq => by simp at hq, s, e, hB, fun _ => ⟨h0, fun y hy => by cases hy⟩, fun h => by simp at h⟩
theorem FrmI.pt (hI : FrmI b p r n0 w RZ ZO NO m st xv h u W) : W.heap[p]? = some (.cells #[.pointer (some ⟨b, 0, none⟩)] 102) := by
  obtain ⟨_, _, s, e, hB, _⟩ := hI
  exact hB.pt
theorem FrmI.rz (hI : FrmI b p r n0 w RZ ZO NO m st xv h u W) : W.heap[r]? = some RZ := by
  obtain ⟨_, _, s, e, hB, _⟩ := hI
  exact hB.rz
theorem FrmI.nb (hI : FrmI b p r n0 w RZ ZO NO m st xv h u W) (hl : h.length ≤ m) (hst : st[h.length]? = some (s, e)) : NamB b p r RZ w s e W := by
  obtain ⟨_, _, s2, e2, hB, h1, _⟩ := hI
  have := (h1 hl).1
  rw [hst] at this
  cases this
  exact hB
theorem FrmI.val (hI : FrmI b p r n0 w RZ ZO NO m st xv h u W) (q : Nat) (y : Value) (hy : xv[q]? = some y) (hq : q < h.length) : h[q]? = some y := hI.2.1 q y hy hq
theorem FrmI.call {y : Value} (hI : FrmI b p r n0 w RZ ZO NO m st xv h u W) (hl : h.length < m) (hst : st[h.length + 1]? = some (s', e')) (hy : xv[h.length]? = some y) (hm : Moved b W W' s' e') (hb : b < w.heap.size) (hn : w.heap.size ≤ n0) :
    FrmI b p r n0 w RZ ZO NO m st xv (h ++ [y]) u W' := by
  obtain ⟨hx, hv, s2, e2, hB, h1, _⟩ := hI
  refine ⟨hx, fun q v hq hlt => ?_, s', e', hB.call hm hb hx.1, fun _ => ⟨by rw [List.length_append]; exact hst, (h1 (by omega)).2.call hm hb hn⟩, fun hh => ?_⟩
  · rw [List.length_append, List.length_singleton] at hlt
    rcases Nat.lt_or_ge q h.length with h2 | h2
    · rw [List.getElem?_append_left h2]; exact hv q v hq h2
    · have : q = h.length := by omega
      subst this
      rw [hy] at hq
      rw [List.getElem?_append_right (Nat.le_refl _), Nat.sub_self]
      exact hq
  · rw [List.length_append, List.length_singleton] at hh; omega
theorem FrmI.alloc (hI : FrmI b p r n0 w RZ ZO NO m st xv h none W) (hl : h.length ≤ m) (hw : n0 ≤ W.heap.size) : FrmI b p r n0 w RZ ZO NO m st xv h (some (.pointer (some ⟨W.heap.size, 0, none⟩))) (W.alloc ZO) := by
  obtain ⟨hx, hv, s2, e2, hB, h1, _⟩ := hI
  exact ⟨hx, hv, s2, e2, hB.alloc _, fun _ => ⟨(h1 hl).1, Free0.new hw⟩, fun hh => by omega⟩
theorem FrmI.zz {yf : Value} (hI : FrmI b p r n0 w RZ ZO NO m st xv h (some yf) W) (hl : h.length = m) (hxl : xv.length ≤ m) :
    ∃ zz, yf = .pointer (some ⟨zz, 0, none⟩) ∧ n0 ≤ zz ∧ W.heap[zz]? = some ZO ∧ ∀ W2 : World, W2.heap[zz]? = some NO → (∀ (s : ByteArray) (e : Int), Moved b w W s e → Moved b w W2 s e) → (∀ (g : Nat) (o : Obj), W.heap[g]? = some o → g ≠ zz → W2.heap[g]? = some o) → FrmI b p r n0 w RZ ZO NO m st xv (h ++ [undef]) (some yf) W2 := by
  obtain ⟨hx, hv, s2, e2, hB, h1, _⟩ := hI
  obtain ⟨h3, h4⟩ := h1 (by omega)
  obtain ⟨zz, rfl, h5, h6⟩ := h4 yf rfl
  refine ⟨zz, rfl, h5, h6, fun W2 g1 g2 g3 => ⟨hx, fun q v hq hlt => ?_, s2, e2, ⟨g2 _ _ hB.mv, g3 _ _ hB.pt (by omega), g3 _ _ hB.rz (by omega)⟩, fun hh => ?_, fun _ => ⟨by rw [← hl]; exact h3, zz, rfl, h5, g1⟩⟩⟩
  · have h2 : q < h.length := by have := (List.getElem?_eq_some_iff.1 hq).1; omega
    rw [List.getElem?_append_left h2]; exact hv q v hq h2
  · rw [List.length_append, List.length_singleton] at hh; omega
theorem FrmI.fin (hI : FrmI b p r n0 w RZ ZO NO m st xv h u W) (hl : h.length = m + 1) (hst : st[m]? = some (s, e)) : ∃ zz, u = some (.pointer (some ⟨zz, 0, none⟩)) ∧ n0 ≤ zz ∧ NamB b p r RZ w s e W ∧ W.heap[zz]? = some NO := by
  obtain ⟨_, _, s2, e2, hB, _, h1⟩ := hI
  obtain ⟨h2, zz, h3, h4, h5⟩ := h1 hl
  rw [hst] at h2
  cases h2
  exact ⟨zz, h3, h4, hB, h5⟩
/-- A pod's six cells stored. -/
def set6 (W : World) (z : Nat) (v0 v1 v2 v3 v4 v5 : Value) : World := (((((W.setCell ⟨z, 0, none⟩ v0).setCell ⟨z, 1, none⟩ v1).setCell ⟨z, 2, none⟩ v2).setCell ⟨z, 3, none⟩ v3).setCell ⟨z, 4, none⟩ v4).setCell ⟨z, 5, none⟩ v5
variable {z : Nat} {v0 v1 v2 v3 v4 v5 : Value} {o : Obj}
theorem set6_mv (h : Moved b w W s e) (hz : w.heap.size ≤ z) (hb : b < w.heap.size) : Moved b w (set6 W z v0 v1 v2 v3 v4 v5) s e := (((((h.off hz hb _ _).off hz hb _ _).off hz hb _ _).off hz hb _ _).off hz hb _ _).off hz hb _ _
theorem set6_off {g : Nat} (h : W.heap[g]? = some o) (hne : g ≠ z) : (set6 W z v0 v1 v2 v3 v4 v5).heap[g]? = some o := at_off (at_off (at_off (at_off (at_off (at_off h hne _) hne _) hne _) hne _) hne _) hne _
theorem set6_box {u0 u1 u2 u3 u4 u5 : Value} {t : TypeId} (h : W.heap[z]? = some (.cells #[u0, u1, u2, u3, u4, u5] t)) : (set6 W z v0 v1 v2 v3 v4 v5).heap[z]? = some (.cells #[v0, v1, v2, v3, v4, v5] t) := by
  simp [set6, World.setCell, Array.getElem?_modify, h]
theorem set6_own {B t k n : Nat} {v : Value} {xs : List Value} {u0 u1 u2 u3 u4 u5 : Value} {tz : TypeId} (h : W.ownsRow B t k v n xs) (hz : W.heap[z]? = some (.cells #[u0, u1, u2, u3, u4, u5] tz)) (hne : t ≠ tz) : (set6 W z v0 v1 v2 v3 v4 v5).ownsRow B t k v n xs := by
  have z1 := at_set hz 0 v0
  have z2 := at_set z1 1 v1
  have z3 := at_set z2 2 v2
  have z4 := at_set z3 3 v3
  have z5 := at_set z4 4 v4
  exact own_type (own_type (own_type (own_type (own_type (own_type h hz hne 0 v0) z1 hne 1 v1) z2 hne 2 v2) z3 hne 3 v3) z4 hne 4 v4) z5 hne 5 v5
end
/-- A pod's rows, in memory of its own. -/
structure POwn (W : World) (q : PM) : Prop where
  row : W.ownsRow 0 94 7 (.slice q.a q.cs.length q.cap) q.cs.length (ccells q.cs)
  ins : ∀ m ∈ q.cs, COwn W m
theorem POwn.at {W : World} {q : PM} (h : POwn W q) : q.At W := ⟨RowAt.owns h.row, fun m hm => (h.ins m hm).inn, own_le h.row⟩
theorem POwn.fr {z : Nat} {S T : TypeId} {W W' : World} {q : PM} {cz : Array Value} (h : POwn W q) (f : Fr z T W W') (hz : W.heap[z]? = some (.cells cz S)) (h1 : 9 ≠ S) (h2 : 97 ≠ S) (h3 : 98 ≠ S) (h4 : 9 ≠ T) (h5 : 97 ≠ T) (h6 : 98 ≠ T) (h7 : 94 ≠ S) (h8 : 94 ≠ T) : POwn W' q :=
  ⟨own_fr h.row f hz (by decide) h7 h8, fun m hm => (h.ins m hm).fr f hz h1 h2 h3 h4 h5 h6⟩
set_option maxHeartbeats 8000000 in
theorem pod3c_any (b : Nat) (s1 s2 s3 s4 s5 s6 s7 t : ByteArray) (e1 e2 e3 e4 e5 e6 e7 f n : Int) (x1 x2 : ByteArray) (r0 g0 : Int) (host : Bool) (cs : List Ct) (w : World) (hs1 : s1.size ≤ maxLen) (ht : atT w b s1 e1)
    (h2 : textT s1 e1 = (s2, e2, x1)) (h3 : textT s2 e2 = (s3, e3, x2)) (h4 : takeT s3 e3 1 = (s4, e4, r0)) (h5 : takeT s4 e4 2 = (s5, e5, g0)) (h6 : flagT s5 e5 = (s6, e6, host)) (h7 : upT s6 e6 1 16 = (s7, e7, n)) (h8 : manyT ct3T n.toNat s7 e7 = (t, f, cs)) :
    Calls Tryz.prog 44 #[.pointer (some ⟨b, 0, none⟩)] w fun r W => ∃ q : PM, r = .returned q.val ∧ (f = 0 → q.pd = ⟨x1, x2, r0, g0, host, cs⟩) ∧ POwn W q ∧ Moved b w W t f := by
  have hb := atT_lt ht
  have hs2 : s2.size ≤ maxLen := Nat.le_trans (textT_len h2).1 hs1
  have hs3 : s3.size ≤ maxLen := Nat.le_trans (textT_len h3).1 hs2
  have hs4 : s4.size ≤ maxLen := Nat.le_trans (take_len h4) hs3
  have hs5 : s5.size ≤ maxLen := Nat.le_trans (take_len h5) hs4
  have hs6 : s6.size ≤ maxLen := Nat.le_trans (flag_lenT h6) hs5
  have hvr := take_bounds s3 e3 1
  rw [show ((1 : Nat) : Int) = 1 from rfl, h4] at hvr
  have hvg := take_bounds s4 e4 2
  rw [show ((2 : Nat) : Int) = 2 from rfl, h5] at hvg
  dsimp only at hvr hvg
  have hwr := wrap_i64s (r := r0) hvr.1 (by omega)
  have hwg := wrap_i64s (r := g0) hvg.1 (by omega)
  clear hvr hvg
  have hn0 : w.heap.size ≤ w.heap.size + 2 := by omega
  have HA := at_alloc (p := .cells #[.string ⟨#[]⟩, .string ⟨#[]⟩, .int .i64 0, .int .i64 0, .bool false, .slice none 0 0] 41) (at_new w (.cells #[.pointer (some ⟨b, 0, none⟩)] 102))
  have HR := at_new (w.alloc (.cells #[.pointer (some ⟨b, 0, none⟩)] 102)) (.cells #[.string ⟨#[]⟩, .string ⟨#[]⟩, .int .i64 0, .int .i64 0, .bool false, .slice none 0 0] 41)
  rw [World.size_alloc] at HR
  have HM := (Moved.refl ht).fresh hb (((Fresh.refl w).alloc (.cells #[.pointer (some ⟨b, 0, none⟩)] 102)).alloc (.cells #[.string ⟨#[]⟩, .string ⟨#[]⟩, .int .i64 0, .int .i64 0, .bool false, .slice none 0 0] 41))
  go_enter Tryz.func44, Tryz.ntmps44
  go_wp2_with (fail)
  generalize (w.alloc (.cells #[.pointer (some ⟨b, 0, none⟩)] 102)).alloc (.cells #[.string ⟨#[]⟩, .string ⟨#[]⟩, .int .i64 0, .int .i64 0, .bool false, .slice none 0 0] 41) = W0 at *
  obtain ⟨p, hp⟩ : ∃ p, p = w.heap.size := ⟨_, rfl⟩
  obtain ⟨r, hr⟩ : ∃ r, r = w.heap.size + 1 := ⟨_, rfl⟩
  rw [← hp] at HA
  rw [← hr] at HR
  rw [← hr, ← hp]
  have HB0 : NamB b p r (.cells #[.string ⟨#[]⟩, .string ⟨#[]⟩, .int .i64 0, .int .i64 0, .bool false, .slice none 0 0] 41) w s1 e1 W0.drew := ⟨HM.drew, HA, HR⟩
  clear HA HR HM
  refine chainF_region [3, 7, 11, 16, 21, 24] [some (Value.pointer (some ⟨b, 0, none⟩)), some (Value.pointer (some ⟨b, 0, none⟩)), some (Value.pointer (some ⟨b, 0, none⟩)), none, some (Value.pointer (some ⟨b, 0, none⟩)), some (Value.pointer (some ⟨b, 0, none⟩)), some (Value.pointer (some ⟨b, 0, none⟩)), none, some (Value.pointer (some ⟨b, 0, none⟩)), some (Value.pointer (some ⟨b, 0, none⟩)), some (Value.pointer (some ⟨b, 0, none⟩)), none, some (Value.int .i64 r0), some (Value.pointer (some ⟨b, 0, none⟩)), some (Value.pointer (some ⟨b, 0, none⟩)), some (Value.pointer (some ⟨b, 0, none⟩)), none, some (Value.int .i64 g0), some (Value.pointer (some ⟨b, 0, none⟩)), some (Value.pointer (some ⟨b, 0, none⟩)), some (Value.pointer (some ⟨b, 0, none⟩)), none, some (Value.agg #[.string x1, .string x2, .int .i64 r0, .int .i64 g0, .bool host, .slice none 0 0]), none, none] 23 (FrmI b p r (w.heap.size + 2) w (.cells #[.string ⟨#[]⟩, .string ⟨#[]⟩, .int .i64 0, .int .i64 0, .bool false, .slice none 0 0] 41) (.cells #[.string ⟨#[]⟩, .string ⟨#[]⟩, .int .i64 0, .int .i64 0, .bool false, .slice none 0 0] 41) (.cells #[.string x1, .string x2, .int .i64 r0, .int .i64 g0, .bool host, .slice none 0 0] 41) 5 [(s1, e1), (s2, e2), (s3, e3), (s4, e4), (s5, e5), (s6, e6)] [.string x1, .string x2, .int .u64 r0, .int .u64 g0, .bool host]) mixed3 (n := 31) rfl (by decide +kernel) (ms := [true, true, true, false, true, true, true, false, true, true, true, false, true, true, true, true, false, true, true, true, true, false, true, false, false]) rfl (by decide +kernel) (FrmI.start HB0 ⟨by omega, by omega, by omega⟩ rfl) rfl ⟨?_, ?_, ?_, ?_, ?_, ?_, ?_, ?_, ?_, ?_, ?_, ?_, ?_, ?_, ?_, ?_, ?_, ?_, ?_, ?_, ?_, ?_, ?_, ?_, ?_, trivial⟩ ?_
  · intro h u a W hI hfy hfn hvf hlo hhi hpos hvw hvr hst
    have g1 := ev_get (show a.eval (.tmp 1) = Value.pointer (some ⟨p, 0, none⟩) from hst 1 (by decide +kernel))
    have cq := cell_of_at (FrmI.pt hI) (i := 0) rfl
    show (execOp a.eval _).run _ W = .ok (.value (Value.pointer (some ⟨b, 0, none⟩))) W
    simp [execOp, g1, go_sem, cq]
  · intro h u a W hI hfy hfn hvf hlo hhi hpos hvw hvr hst
    have g4 := ev_get (show a.eval (.tmp 4) = Value.pointer (some ⟨b, 0, none⟩) from hvr 0 4 _ (by decide +kernel) rfl rfl)
    show (execOp a.eval _).run _ W = .ok (.value (Value.pointer (some ⟨b, 0, none⟩))) W
    simp [execOp, g4, go_sem]
  · intro h u a W hI hfy hfn hvf hlo hhi hpos hvw hvr hst
    have g5 := ev_get (show a.eval (.tmp 5) = Value.pointer (some ⟨b, 0, none⟩) from hvr 1 5 _ (by decide +kernel) rfl rfl)
    show (execOp a.eval _).run _ W = .ok (.value (Value.pointer (some ⟨b, 0, none⟩))) W
    simp [execOp, g5, go_sem]
  · intro h u a W hI hfy hfn hvf hlo hhi hpos hvw hvr hst
    obtain rfl := lst0 (hpos 0 rfl)
    have g6 := ev_get (show a.eval (.tmp 6) = Value.pointer (some ⟨b, 0, none⟩) from hvr 2 6 _ (by decide +kernel) rfl rfl)
    refine .inr (.inr ⟨43, #[.pointer (some ⟨b, 0, none⟩)], by simp [execOp, g6, go_sem], (ttext_at W hs1 (FrmI.nb hI (by simp) rfl).mv.isT h2).mono ?_⟩)
    rintro r V ⟨rfl, hm⟩
    exact ⟨_, rfl, FrmI.call hI (by simp) rfl rfl hm hb hn0⟩
  · intro h u a W hI hfy hfn hvf hlo hhi hpos hvw hvr hst
    have g1 := ev_get (show a.eval (.tmp 1) = Value.pointer (some ⟨p, 0, none⟩) from hst 1 (by decide +kernel))
    have cq := cell_of_at (FrmI.pt hI) (i := 0) rfl
    show (execOp a.eval _).run _ W = .ok (.value (Value.pointer (some ⟨b, 0, none⟩))) W
    simp [execOp, g1, go_sem, cq]
  · intro h u a W hI hfy hfn hvf hlo hhi hpos hvw hvr hst
    have g8 := ev_get (show a.eval (.tmp 8) = Value.pointer (some ⟨b, 0, none⟩) from hvr 4 8 _ (by decide +kernel) rfl rfl)
    show (execOp a.eval _).run _ W = .ok (.value (Value.pointer (some ⟨b, 0, none⟩))) W
    simp [execOp, g8, go_sem]
  · intro h u a W hI hfy hfn hvf hlo hhi hpos hvw hvr hst
    have g9 := ev_get (show a.eval (.tmp 9) = Value.pointer (some ⟨b, 0, none⟩) from hvr 5 9 _ (by decide +kernel) rfl rfl)
    show (execOp a.eval _).run _ W = .ok (.value (Value.pointer (some ⟨b, 0, none⟩))) W
    simp [execOp, g9, go_sem]
  · intro h u a W hI hfy hfn hvf hlo hhi hpos hvw hvr hst
    obtain ⟨y0, rfl⟩ := lst1 (hpos 1 rfl)
    have g10 := ev_get (show a.eval (.tmp 10) = Value.pointer (some ⟨b, 0, none⟩) from hvr 6 10 _ (by decide +kernel) rfl rfl)
    refine .inr (.inr ⟨43, #[.pointer (some ⟨b, 0, none⟩)], by simp [execOp, g10, go_sem], (ttext_at W hs2 (FrmI.nb hI (by simp) rfl).mv.isT h3).mono ?_⟩)
    rintro r V ⟨rfl, hm⟩
    exact ⟨_, rfl, FrmI.call hI (by simp) rfl rfl hm hb hn0⟩
  · intro h u a W hI hfy hfn hvf hlo hhi hpos hvw hvr hst
    have g1 := ev_get (show a.eval (.tmp 1) = Value.pointer (some ⟨p, 0, none⟩) from hst 1 (by decide +kernel))
    have cq := cell_of_at (FrmI.pt hI) (i := 0) rfl
    show (execOp a.eval _).run _ W = .ok (.value (Value.pointer (some ⟨b, 0, none⟩))) W
    simp [execOp, g1, go_sem, cq]
  · intro h u a W hI hfy hfn hvf hlo hhi hpos hvw hvr hst
    have g12 := ev_get (show a.eval (.tmp 12) = Value.pointer (some ⟨b, 0, none⟩) from hvr 8 12 _ (by decide +kernel) rfl rfl)
    show (execOp a.eval _).run _ W = .ok (.value (Value.pointer (some ⟨b, 0, none⟩))) W
    simp [execOp, g12, go_sem]
  · intro h u a W hI hfy hfn hvf hlo hhi hpos hvw hvr hst
    have g13 := ev_get (show a.eval (.tmp 13) = Value.pointer (some ⟨b, 0, none⟩) from hvr 9 13 _ (by decide +kernel) rfl rfl)
    show (execOp a.eval _).run _ W = .ok (.value (Value.pointer (some ⟨b, 0, none⟩))) W
    simp [execOp, g13, go_sem]
  · intro h u a W hI hfy hfn hvf hlo hhi hpos hvw hvr hst
    obtain ⟨y0, y1, rfl⟩ := lst2 (hpos 2 rfl)
    have g14 := ev_get (show a.eval (.tmp 14) = Value.pointer (some ⟨b, 0, none⟩) from hvr 10 14 _ (by decide +kernel) rfl rfl)
    refine .inr (.inr ⟨40, #[.pointer (some ⟨b, 0, none⟩), .int .i64 1], by simp [execOp, g14, go_sem], (take_at W hs3 (FrmI.nb hI (by simp) rfl).mv.isT h4).mono ?_⟩)
    rintro r V ⟨rfl, hm⟩
    exact ⟨_, rfl, FrmI.call hI (by simp) rfl rfl hm hb hn0⟩
  · intro h u a W hI hfy hfn hvf hlo hhi hpos hvw hvr hst
    have g15 := ev_get (hvw 2 11 15 (Value.int .u64 r0) rfl (FrmI.val hI 2 _ rfl (hlo 2 11 rfl (by decide +kernel))) rfl)
    show (execOp a.eval _).run _ W = .ok (.value (Value.int .i64 r0)) W
    simp [execOp, g15, go_sem, hwr]
  · intro h u a W hI hfy hfn hvf hlo hhi hpos hvw hvr hst
    have g1 := ev_get (show a.eval (.tmp 1) = Value.pointer (some ⟨p, 0, none⟩) from hst 1 (by decide +kernel))
    have cq := cell_of_at (FrmI.pt hI) (i := 0) rfl
    show (execOp a.eval _).run _ W = .ok (.value (Value.pointer (some ⟨b, 0, none⟩))) W
    simp [execOp, g1, go_sem, cq]
  · intro h u a W hI hfy hfn hvf hlo hhi hpos hvw hvr hst
    have g17 := ev_get (show a.eval (.tmp 17) = Value.pointer (some ⟨b, 0, none⟩) from hvr 13 17 _ (by decide +kernel) rfl rfl)
    show (execOp a.eval _).run _ W = .ok (.value (Value.pointer (some ⟨b, 0, none⟩))) W
    simp [execOp, g17, go_sem]
  · intro h u a W hI hfy hfn hvf hlo hhi hpos hvw hvr hst
    have g18 := ev_get (show a.eval (.tmp 18) = Value.pointer (some ⟨b, 0, none⟩) from hvr 14 18 _ (by decide +kernel) rfl rfl)
    show (execOp a.eval _).run _ W = .ok (.value (Value.pointer (some ⟨b, 0, none⟩))) W
    simp [execOp, g18, go_sem]
  · intro h u a W hI hfy hfn hvf hlo hhi hpos hvw hvr hst
    obtain ⟨y0, y1, y2, rfl⟩ := lst3 (hpos 3 rfl)
    have g19 := ev_get (show a.eval (.tmp 19) = Value.pointer (some ⟨b, 0, none⟩) from hvr 15 19 _ (by decide +kernel) rfl rfl)
    refine .inr (.inr ⟨40, #[.pointer (some ⟨b, 0, none⟩), .int .i64 2], by simp [execOp, g19, go_sem], (take_at W hs4 (FrmI.nb hI (by simp) rfl).mv.isT h5).mono ?_⟩)
    rintro r V ⟨rfl, hm⟩
    exact ⟨_, rfl, FrmI.call hI (by simp) rfl rfl hm hb hn0⟩
  · intro h u a W hI hfy hfn hvf hlo hhi hpos hvw hvr hst
    have g20 := ev_get (hvw 3 16 20 (Value.int .u64 g0) rfl (FrmI.val hI 3 _ rfl (hlo 3 16 rfl (by decide +kernel))) rfl)
    show (execOp a.eval _).run _ W = .ok (.value (Value.int .i64 g0)) W
    simp [execOp, g20, go_sem, hwg]
  · intro h u a W hI hfy hfn hvf hlo hhi hpos hvw hvr hst
    have g1 := ev_get (show a.eval (.tmp 1) = Value.pointer (some ⟨p, 0, none⟩) from hst 1 (by decide +kernel))
    have cq := cell_of_at (FrmI.pt hI) (i := 0) rfl
    show (execOp a.eval _).run _ W = .ok (.value (Value.pointer (some ⟨b, 0, none⟩))) W
    simp [execOp, g1, go_sem, cq]
  · intro h u a W hI hfy hfn hvf hlo hhi hpos hvw hvr hst
    have g22 := ev_get (show a.eval (.tmp 22) = Value.pointer (some ⟨b, 0, none⟩) from hvr 18 22 _ (by decide +kernel) rfl rfl)
    show (execOp a.eval _).run _ W = .ok (.value (Value.pointer (some ⟨b, 0, none⟩))) W
    simp [execOp, g22, go_sem]
  · intro h u a W hI hfy hfn hvf hlo hhi hpos hvw hvr hst
    have g23 := ev_get (show a.eval (.tmp 23) = Value.pointer (some ⟨b, 0, none⟩) from hvr 19 23 _ (by decide +kernel) rfl rfl)
    show (execOp a.eval _).run _ W = .ok (.value (Value.pointer (some ⟨b, 0, none⟩))) W
    simp [execOp, g23, go_sem]
  · intro h u a W hI hfy hfn hvf hlo hhi hpos hvw hvr hst
    obtain ⟨y0, y1, y2, y3, rfl⟩ := lst4 (hpos 4 rfl)
    have g24 := ev_get (show a.eval (.tmp 24) = Value.pointer (some ⟨b, 0, none⟩) from hvr 20 24 _ (by decide +kernel) rfl rfl)
    refine .inr (.inr ⟨72, #[.pointer (some ⟨b, 0, none⟩)], by simp [execOp, g24, go_sem], (tflag_at W hs5 (FrmI.nb hI (by simp) rfl).mv.isT h6).mono ?_⟩)
    rintro r V ⟨rfl, hm⟩
    exact ⟨_, rfl, FrmI.call hI (by simp) rfl rfl hm hb hn0⟩
  · intro h u a W hI hfy hfn hvf hlo hhi hpos hvw hvr hst
    have g7 := ev_get (hvw 0 3 7 (Value.string x1) rfl (FrmI.val hI 0 _ rfl (hlo 0 3 rfl (by decide +kernel))) rfl)
    have g11 := ev_get (hvw 1 7 11 (Value.string x2) rfl (FrmI.val hI 1 _ rfl (hlo 1 7 rfl (by decide +kernel))) rfl)
    have g16 := ev_get (show a.eval (.tmp 16) = Value.int .i64 r0 from hvr 12 16 _ (by decide +kernel) rfl rfl)
    have g21 := ev_get (show a.eval (.tmp 21) = Value.int .i64 g0 from hvr 17 21 _ (by decide +kernel) rfl rfl)
    have g25 := ev_get (hvw 4 21 25 (Value.bool host) rfl (FrmI.val hI 4 _ rfl (hlo 4 21 rfl (by decide +kernel))) rfl)
    show (execOp a.eval _).run _ W = .ok (.value (Value.agg #[.string x1, .string x2, .int .i64 r0, .int .i64 g0, .bool host, .slice none 0 0])) W
    simp [execOp, g7, g11, g16, g21, g25, go_sem]
  · intro h u a W hI hfy hfn hvf hlo hhi hpos hvw hvr hst
    obtain rfl := hfn rfl
    refine ⟨.pointer (some ⟨W.heap.size, 0, none⟩), W.alloc (.cells #[.string ⟨#[]⟩, .string ⟨#[]⟩, .int .i64 0, .int .i64 0, .bool false, .slice none 0 0] 41), by simp [execOp, go_sem], ?_⟩
    exact FrmI.alloc hI (hhi 5 24 rfl (by decide +kernel)) (by have := lt_of_at (FrmI.rz hI); omega)
  · intro h u a W hI hfy hfn hvf hlo hhi hpos hvw hvr hst
    obtain ⟨y0, y1, y2, y3, y4, rfl⟩ := lst5 (hpos 5 rfl)
    obtain ⟨yf, rfl⟩ := hfy (by decide +kernel)
    have g3 := ev_get (hvf yf 3 rfl rfl)
    have g26 := ev_get (show a.eval (.tmp 26) = Value.agg #[.string x1, .string x2, .int .i64 r0, .int .i64 g0, .bool host, .slice none 0 0] from hvr 22 26 _ (by decide +kernel) rfl rfl)
    obtain ⟨zz, hy, hzz, hZ, hK⟩ := FrmI.zz hI rfl (by simp)
    cases hy
    have c0 := cell_of_at hZ (i := 0) rfl
    have c1 := cell_of_at hZ (i := 1) rfl
    have c2 := cell_of_at hZ (i := 2) rfl
    have c3 := cell_of_at hZ (i := 3) rfl
    have c4 := cell_of_at hZ (i := 4) rfl
    have c5 := cell_of_at hZ (i := 5) rfl
    have f0 := frozen_of_at hZ 0
    have f1 := frozen_of_at hZ 1
    have f2 := frozen_of_at hZ 2
    have f3 := frozen_of_at hZ 3
    have f4 := frozen_of_at hZ 4
    have f5 := frozen_of_at hZ 5
    exact .inr (.inl ⟨set6 W zz (.string x1) (.string x2) (.int .i64 r0) (.int .i64 g0) (.bool host) (.slice none 0 0), rfl, by simp [execOp, g3, g26, go_sem, c0, c1, c2, c3, c4, c5, f0, f1, f2, f3, f4, f5, set6], hK _ (set6_box hZ) (fun _ _ m => set6_mv m (by omega) hb) (fun g o hg hne => set6_off hg hne)⟩)
  intro h u a W hh hl
  obtain ⟨zz, hu, hzz, hB, hZ⟩ := FrmI.fin hh.inv hl (s := s6) (e := e6) rfl
  subst hu
  have ha := act_lit (n := 31) (by rw [hh.size]; rfl) hh.defers
  have k0 : a.eval (.tmp 0) = Value.pointer (some ⟨b, 0, none⟩) := hh.keep 0 (by decide +kernel)
  have k1 : a.eval (.tmp 1) = Value.pointer (some ⟨p, 0, none⟩) := hh.keep 1 (by decide +kernel)
  have k2 : a.eval (.tmp 2) = Value.pointer (some ⟨r, 0, none⟩) := hh.keep 2 (by decide +kernel)
  have k3 : a.eval (.tmp 3) = Value.pointer (some ⟨zz, 0, none⟩) := hh.vf _ 3 rfl rfl
  simp only [List.range, List.range.loop, List.map_cons, List.map_nil, k0, k1, k2, k3] at ha
  clear k0 k1 k2 k3
  generalize a.eval (.tmp 4) = v4 at ha
  generalize a.eval (.tmp 5) = v5 at ha
  generalize a.eval (.tmp 6) = v6 at ha
  generalize a.eval (.tmp 7) = v7 at ha
  generalize a.eval (.tmp 8) = v8 at ha
  generalize a.eval (.tmp 9) = v9 at ha
  generalize a.eval (.tmp 10) = v10 at ha
  generalize a.eval (.tmp 11) = v11 at ha
  generalize a.eval (.tmp 12) = v12 at ha
  generalize a.eval (.tmp 13) = v13 at ha
  generalize a.eval (.tmp 14) = v14 at ha
  generalize a.eval (.tmp 15) = v15 at ha
  generalize a.eval (.tmp 16) = v16 at ha
  generalize a.eval (.tmp 17) = v17 at ha
  generalize a.eval (.tmp 18) = v18 at ha
  generalize a.eval (.tmp 19) = v19 at ha
  generalize a.eval (.tmp 20) = v20 at ha
  generalize a.eval (.tmp 21) = v21 at ha
  generalize a.eval (.tmp 22) = v22 at ha
  generalize a.eval (.tmp 23) = v23 at ha
  generalize a.eval (.tmp 24) = v24 at ha
  generalize a.eval (.tmp 25) = v25 at ha
  generalize a.eval (.tmp 26) = v26 at ha
  generalize a.eval (.tmp 27) = v27 at ha
  generalize a.eval (.tmp 28) = v28 at ha
  generalize a.eval (.tmp 29) = v29 at ha
  generalize a.eval (.tmp 30) = v30 at ha
  clear hh
  subst ha
  have hzw : w.heap.size ≤ zz := by omega
  have hzb : zz ≠ b := by omega
  have hrz : r ≠ zz := by omega
  have hrw : w.heap.size ≤ r := by omega
  clear hp hr
  have q1 : World.cell? _ ⟨p, 0, none⟩ = some (.pointer (some ⟨b, 0, none⟩)) := cell_of_at hB.pt rfl
  have HC1 := Lib.hid (list_lay ct3_keeps ct3_less (proj := (·.c)) (enc := CM.cells) (Ex := COwn) (wL := W) (fun _ _ _ _ hz h f => h.fr f hz (by decide) (by decide) (by decide) (by decide) (by decide) (by decide)) (pod_step b p zz x1 x2 r0 g0 host w hb hzw) (fun _ => by kernel_rfl) hs6 ⟨hB.mv, hB.pt, hZ, World.ownsRow_nil _ _ _ _, .refl _ _ _⟩ hb (by decide) h7 h8)
  have HB := Lib.hid hB
  clear hB hZ HB0 hs1 hs2 hs3 hs4 hs5 hs6 h2 h3 h4 h5 h6 h7 h8 ht hwr hwg
  refine ‹∀ (a : Act) (w : World), Code.wp _ _ _ a w → _› _ W ?_
  go_wp2_with (fail)
  refine HC1.out.mono ?_
  rintro r1 W1 ⟨rfl, o1, c1, D1, hP1, hD1, hl1, hC1⟩
  have HR1 := Lib.hid (hP1.fr _ _ _ _ HB.out.rz (by decide) hrz (by decide))
  have HP1 := Lib.hid hP1
  have HD1 := Lib.hid hD1
  have HO1 := Lib.hid hC1
  clear hP1 hD1 hC1 HC1 HB q1
  have c0 := cell_of_at HP1.out.bx (i := 0) rfl
  have c1' := cell_of_at HP1.out.bx (i := 1) rfl
  have c2' := cell_of_at HP1.out.bx (i := 2) rfl
  have c3' := cell_of_at HP1.out.bx (i := 3) rfl
  have c4 := cell_of_at HP1.out.bx (i := 4) rfl
  have c5 := cell_of_at HP1.out.bx (i := 5) rfl
  have g0' := cell_of_at HR1.out (i := 0) rfl
  have g1 := cell_of_at HR1.out (i := 1) rfl
  have g2 := cell_of_at HR1.out (i := 2) rfl
  have g3 := cell_of_at HR1.out (i := 3) rfl
  have g4 := cell_of_at HR1.out (i := 4) rfl
  have g5 := cell_of_at HR1.out (i := 5) rfl
  have f0 := frozen_of_at HR1.out 0
  have f1 := frozen_of_at HR1.out 1
  have f2 := frozen_of_at HR1.out 2
  have f3 := frozen_of_at HR1.out 3
  have f4 := frozen_of_at HR1.out 4
  have f5 := frozen_of_at HR1.out 5
  go_wp2
  refine bodyPost_ret (v := .agg #[.string x1, .string x2, .int .i64 r0, .int .i64 g0, .bool host, .slice o1 D1.length c1]) (by simp [results, Tryz.results44, go_sem, *]) rfl ⟨⟨x1, x2, r0, g0, host, o1, c1, D1⟩, rfl, fun he => ?_, ⟨?_, fun m hm => ?_⟩, ?_⟩
  · rw [PM.pd, HD1.out he]
  · exact World.ownsRow.mono (set6_own HP1.out.own HR1.out (by decide)) (Nat.zero_le _)
  · have h := HO1.out m hm
    exact ⟨set6_own h.cmd HR1.out (by decide), set6_own h.ports HR1.out (by decide), set6_own h.env HR1.out (by decide)⟩
  · exact set6_mv HP1.out.mv hrw hb
end Go.Proofs.YtmomlgkpdoapoaaGreatDoor.K
namespace Go.Proofs.YtmomlgkpdoapoaaGreatDoor.K
open Go.ChangeShapes Go.WideShapes Go.ChangeAt Go.RowKit
set_option maxRecDepth 100000
set_option linter.unusedSimpArgs false

theorem infoP3 : (Tryz.prog.info? 61).map (fun i => (i.zero, i.size, i.bytes)) = some (some (.agg #[.string ⟨#[]⟩, .string ⟨#[]⟩, .string ⟨#[]⟩, .int .i64 0, .int .i64 0, .bool false, .slice none 0 0]), 7, 96) := by kernel_rfl
theorem M3.flat_eq {file : ByteArray} {x u : PM} (h : x.val = u.val) : M3.flat ⟨file, x⟩ = M3.flat ⟨file, u⟩ := by
  simp only [PM.val, Value.agg.injEq, Array.mk.injEq, List.cons.injEq] at h
  obtain ⟨h1, h2, h3, h4, h5, h6, _⟩ := h
  simp only [M3.flat, h1, h2, h3, h4, h5, h6]
attribute [-go_sem] Go.Builtin.append_ in
set_option maxHeartbeats 8000000 in
theorem dec_step (b p z : Nat) (seq : Int) (w0 : World) (hb : b < w0.heap.size) (hzw : w0.heap.size ≤ z) :
    LStep pod3T M3.p M3.cells (fun W x => POwn W x.m) b p z 25 61 7 (fun v => #[.int .u64 seq, v]) w0 42 := by
  intro k o c D wL s W0 s' e' x hk hs hP hx
  obtain ⟨i0, hi, hz0, hz1, hz2⟩ := info_parts infoP3
  obtain ⟨s1, s2, s3, s4, s5, s6, s7, t, e1, e2, e3, e4, e5, e6, e7, f9, n9, x9, hT⟩ := pod3T_ex s 0
  obtain ⟨r1, r2, r3⟩ : t = s' ∧ f9 = e' ∧ x9 = x := by
    have := (pod3T_eq hT).symm.trans hx
    simpa using this
  subst r1 r2 r3
  obtain ⟨file, ⟨x1, x2, r0, g0, host, xcs⟩⟩ := x9
  have hs1 : s1.size ≤ maxLen := Nat.le_trans hT.le.1 hs
  have h1 : textT s 0 = (s1, e1, file) := hT.h1
  go_enter Tryz.func42, Tryz.ntmps42
  go_wp2_with (fail)
  refine chain_region [5, 7, 8, 9, 10, 12] [some (Value.pointer (some ⟨z, 1, none⟩)), some (Value.slice o k c), some (Value.pointer (some ⟨b, 0, none⟩)), some (Value.pointer (some ⟨b, 0, none⟩)), some (Value.pointer (some ⟨b, 0, none⟩)), none, some (Value.pointer (some ⟨b, 0, none⟩)), none, none, none, none, some (Value.pointer (some ⟨z, 1, none⟩)), none] (LayI b p z 1 25 61 7 k ((fun v => #[.int .u64 seq, v]) (.slice o k c)) (.slice o k c) (D.flatMap M3.cells) w0 W0 3 [(s, 0), (s1, e1), (t, f9), (t, f9)] (fun x => [.string file, x.val, M3.flat ⟨file, x⟩]) (fun x => M3.cells ⟨file, x⟩) (fun (q : Nat) (y : PM) (V : World) => 2 ≤ q → POwn V y ∧ (f9 = 0 → y.pd = ⟨x1, x2, r0, g0, host, xcs⟩))) mixed3 (n := 14) rfl (by decide +kernel) (ms := [true, true, true, true, true, false, true, false, false, false, false, true, false]) rfl (by decide +kernel) (LayI.start (⟨⟨#[]⟩, ⟨#[]⟩, 0, 0, false, none, 0, []⟩) (Ph.drew ⟨hP.mv, hP.pt, hP.bx, hP.own, .refl _ _ _⟩) rfl (fun h => absurd h (by decide))) ⟨?_, ?_, ?_, ?_, ?_, ?_, ?_, ?_, ?_, ?_, ?_, ?_, ?_, trivial⟩ ?_
  · intro h a W hI hlo hhi hpos hvw hvr hst
    have g0 := ev_get (show a.eval (.tmp 0) = Value.pointer (some ⟨z, 0, none⟩) from hst 0 (by decide +kernel))
    show (execOp a.eval _).run _ W = .ok (.value (Value.pointer (some ⟨z, 1, none⟩))) W
    simp [execOp, g0, go_sem]
  · intro h a W hI hlo hhi hpos hvw hvr hst
    have g2 := ev_get (show a.eval (.tmp 2) = Value.pointer (some ⟨z, 1, none⟩) from hvr 0 2 _ (by decide +kernel) rfl rfl)
    have q := LayI.bx hI (hhi 4 10 rfl (by decide +kernel))
    have cq := cell_of_at q.1 (i := 1) rfl
    show (execOp a.eval _).run _ W = .ok (.value (Value.slice o k c)) W
    simp [execOp, g2, go_sem, cq]
  · intro h a W hI hlo hhi hpos hvw hvr hst
    have g1 := ev_get (show a.eval (.tmp 1) = Value.pointer (some ⟨p, 0, none⟩) from hst 1 (by decide +kernel))
    have q := LayI.bx hI (Nat.le_trans (hhi 0 5 rfl (by decide +kernel)) (by decide))
    have cq := cell_of_at q.2 (i := 0) rfl
    show (execOp a.eval _).run _ W = .ok (.value (Value.pointer (some ⟨b, 0, none⟩))) W
    simp [execOp, g1, go_sem, cq]
  · intro h a W hI hlo hhi hpos hvw hvr hst
    have g4 := ev_get (show a.eval (.tmp 4) = Value.pointer (some ⟨b, 0, none⟩) from hvr 2 4 _ (by decide +kernel) rfl rfl)
    show (execOp a.eval _).run _ W = .ok (.value (Value.pointer (some ⟨b, 0, none⟩))) W
    simp [execOp, g4, go_sem]
  · intro h a W hI hlo hhi hpos hvw hvr hst
    have g5 := ev_get (show a.eval (.tmp 5) = Value.pointer (some ⟨b, 0, none⟩) from hvr 3 5 _ (by decide +kernel) rfl rfl)
    show (execOp a.eval _).run _ W = .ok (.value (Value.pointer (some ⟨b, 0, none⟩))) W
    simp [execOp, g5, go_sem]
  · intro h a W hI hlo hhi hpos hvw hvr hst
    obtain rfl := lst0 (hpos 0 rfl)
    have g6 := ev_get (show a.eval (.tmp 6) = Value.pointer (some ⟨b, 0, none⟩) from hvr 4 6 _ (by decide +kernel) rfl rfl)
    refine .inr (.inr ⟨43, #[.pointer (some ⟨b, 0, none⟩)], by simp [execOp, g6, go_sem], (ttext_at W hs (LayI.ph hI (by simp) rfl).mv.isT h1).mono ?_⟩)
    rintro r V ⟨rfl, hm⟩
    exact ⟨_, rfl, LayI.more hI (by simp) rfl ((LayI.ph hI (by simp) rfl).call hm hb (by decide)) id (fun _ _ _ => ⟨fun _ _ => rfl, rfl, fun h => absurd h (by simp)⟩)⟩
  · intro h a W hI hlo hhi hpos hvw hvr hst
    have g1 := ev_get (show a.eval (.tmp 1) = Value.pointer (some ⟨p, 0, none⟩) from hst 1 (by decide +kernel))
    have q := LayI.bx hI (Nat.le_trans (hhi 1 7 rfl (by decide +kernel)) (by decide))
    have cq := cell_of_at q.2 (i := 0) rfl
    show (execOp a.eval _).run _ W = .ok (.value (Value.pointer (some ⟨b, 0, none⟩))) W
    simp [execOp, g1, go_sem, cq]
  · intro h a W hI hlo hhi hpos hvw hvr hst
    obtain ⟨y0, rfl⟩ := lst1 (hpos 1 rfl)
    have g8 := ev_get (show a.eval (.tmp 8) = Value.pointer (some ⟨b, 0, none⟩) from hvr 6 8 _ (by decide +kernel) rfl rfl)
    obtain rfl : y0 = .string file := by simpa using LayI.val hI 0 (.string file) (fun _ => rfl) (by simp)
    refine .inr (.inr ⟨44, #[.pointer (some ⟨b, 0, none⟩)], by simp [execOp, g8, go_sem], (pod3c_any b s1 s2 s3 s4 s5 s6 s7 t e1 e2 e3 e4 e5 e6 e7 f9 n9 x1 x2 r0 g0 host xcs W hs1 (LayI.ph hI (by simp) rfl).mv.isT hT.h2 hT.h3 hT.h4 hT.h5 hT.h6 hT.h7 hT.h8).mono ?_⟩)
    rintro r V ⟨q, rfl, hqc, hqo, hm⟩
    exact ⟨_, rfl, LayI.more hI (by simp) rfl ((LayI.ph hI (by simp) rfl).call hm hb (by decide)) (fun _ => q) (fun _ _ _ => ⟨fun j hj => by (have : j = 0 := by simpa using hj); subst this; rfl, rfl, fun _ => ⟨hqo, hqc⟩⟩)⟩
  · intro h a W hI hlo hhi hpos hvw hvr hst
    obtain ⟨y0, y1, rfl⟩ := lst2 (hpos 2 rfl)
    have g7 := ev_get (hvw 0 5 7 y0 rfl rfl rfl)
    have g9 := ev_get (hvw 1 7 9 y1 rfl rfl rfl)
    obtain rfl : y0 = .string file := by simpa using LayI.val hI 0 (.string file) (fun _ => rfl) (by simp)
    obtain ⟨u, hv, _⟩ := id hI
    obtain rfl : y1 = u.val := by simpa using hv 1 _ rfl (by simp)
    refine .inl ⟨M3.flat ⟨file, u⟩, W, by simp [execOp, g7, g9, go_sem, M3.flat, PM.val], LayI.more hI (by simp) rfl (LayI.ph hI (by simp) rfl) id (fun x hvx hE => ⟨fun _ _ => rfl, ?_, fun _ => hE (by simp)⟩)⟩
    have h9 : u.val = x.val := by simpa using hvx 1 _ rfl (by simp)
    exact congrArg some (M3.flat_eq h9.symm)
  · intro h a W hI hlo hhi hpos hvw hvr hst
    obtain ⟨y0, y1, y2, rfl⟩ := lst3 (hpos 3 rfl)
    have g10 := ev_get (hvw 2 8 10 y2 rfl rfl rfl)
    obtain rfl : y0 = .string file := by simpa using LayI.val hI 0 (.string file) (fun _ => rfl) (by simp)
    obtain ⟨u, s9, e9, q0, q1, q2, q3⟩ := LayI.last hI rfl
    obtain rfl : y2 = M3.flat ⟨file, u⟩ := by simpa using q0 2 _ rfl (by simp)
    exact .inl ⟨.slice (some ⟨W.heap.size, 0, none⟩) 1 1, W.alloc (.cells (M3.cells ⟨file, u⟩).toArray 61), by simp [execOp, g10, go_sem, M3.flat, M3.cells], LayI.slice (x := u) rfl (by simp) q0 q1 q2 q3⟩
  · intro h a W hI hlo hhi hpos hvw hvr hst
    obtain ⟨y0, y1, y2, y3, rfl⟩ := lst4 (hpos 4 rfl)
    have g3 := ev_get (show a.eval (.tmp 3) = Value.slice o k c from hvr 1 3 _ (by decide +kernel) rfl rfl)
    have g11 := ev_get (hvw 3 9 11 y3 rfl rfl rfl)
    obtain ⟨y, g, cap, w3, q0, hrun, hL⟩ := LayI.app (tl := 23) (fun _ => by simp) rfl Tryz.underlying23 hi hz0 hz1 hz2 rfl (by decide) hb hzw (by decide) (fun _ => rfl) (fun _ => by simp [Value.oneCell', M3.cells]) (by omega) (by omega) hI rfl
    obtain rfl : y3 = y := by simpa using q0
    exact .inl ⟨_, w3, by simp [execOp, g3, g11, go_sem, hrun], hL⟩
  · intro h a W hI hlo hhi hpos hvw hvr hst
    have g0 := ev_get (show a.eval (.tmp 0) = Value.pointer (some ⟨z, 0, none⟩) from hst 0 (by decide +kernel))
    show (execOp a.eval _).run _ W = .ok (.value (Value.pointer (some ⟨z, 1, none⟩))) W
    simp [execOp, g0, go_sem]
  · intro h a W hI hlo hhi hpos hvw hvr hst
    obtain ⟨y0, y1, y2, y3, y4, rfl⟩ := lst5 (hpos 5 rfl)
    have g12 := ev_get (hvw 4 10 12 y4 rfl rfl rfl)
    have g13 := ev_get (show a.eval (.tmp 13) = Value.pointer (some ⟨z, 1, none⟩) from hvr 11 13 _ (by decide +kernel) rfl rfl)
    obtain ⟨g, cap, q0, hz, hL⟩ := LayI.store (fun _ => by simp) hI rfl
    obtain rfl : y4 = _ := by simpa using q0
    have cq := cell_of_at hz (i := 1) rfl
    have f := frozen_of_at hz 1
    exact .inr (.inl ⟨_, rfl, by simp [execOp, g12, g13, go_sem, cq, f], hL⟩)
  intro h a W hh hl
  obtain ⟨x9, W2, g, cap, hE, hP2, hfr, hPf⟩ := LayI.fin hh.inv hl rfl (by decide) (by decide)
  
  refine bodyPost_end (results_none rfl _ _ _) hh.defers ?_
  obtain ⟨ho, hc⟩ := hE (by decide)
  refine ⟨rfl, g, cap, ⟨file, x9⟩, ⟨hPf.mv, hPf.pt, hPf.bx, by rw [flat_snoc]; exact hPf.own, hP.fr.trans hPf.fr⟩, fun h => by rw [M3.p, hc h], ho.fr hfr hP2.bx (by decide) (by decide) (by decide) (by decide) (by decide) (by decide) (by decide) (by decide), hPf.fr⟩

end Go.Proofs.YtmomlgkpdoapoaaGreatDoor.K

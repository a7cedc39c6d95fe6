/-
  A container that package ckthree takes (printed by genc3.py.txt).
-/
import Derived.Test.YtmomlgkpdoapoaaGreatDoorCat24
import Derived.Test.YtmomlgkpdoapoaaGreatDoorCat13
set_option linter.unusedSimpArgs false
set_option linter.unusedVariables false
namespace Go.Proofs.YtmomlgkpdoapoaaGreatDoor.K
open Go.ChangeShapes Go.WideShapes Go.ChangeAt Go.RowKit
set_option maxRecDepth 100000
set_option linter.unusedSimpArgs false

/-- What stands while a container's names are taken. -/
structure ContB (b p r : Nat) (w : World) (s : ByteArray) (e : Int) (W : World) : Prop where
  mv : Moved b w W s e
  pt : W.heap[p]? = some (.cells #[.pointer (some ⟨b, 0, none⟩)] 102)
  rz : W.heap[r]? = some (.cells #[.string ⟨#[]⟩, .string ⟨#[]⟩, .slice none 0 0, .slice none 0 0, .int .i64 0, .int .i64 0, .slice none 0 0] 94)
def Free0 (n0 : Nat) (u : Option Value) (o : Obj) (W : World) : Prop := ∀ y, u = some y → ∃ zz, y = .pointer (some ⟨zz, 0, none⟩) ∧ n0 ≤ zz ∧ W.heap[zz]? = some o
section
variable {b p r n0 : Nat} {w W W' : World} {s s' : ByteArray} {e e' : Int} {u : Option Value} {o : Obj}
theorem ContB.call (h : ContB b p r w s e W) (m : Moved b W W' s' e') (hb : b < w.heap.size) : ContB b p r w s' e' W' := by
  have h0 := h.mv.isT
  unfold atT at h0
  exact ⟨h.mv.trans m, m.at h.pt (fun e2 => by have h1 := h.pt; rw [e2, h0] at h1; cases h1), m.at h.rz (fun e2 => by have h1 := h.rz; rw [e2, h0] at h1; cases h1)⟩
theorem ContB.alloc (h : ContB b p r w s e W) (o : Obj) : ContB b p r w s e (W.alloc o) := ⟨h.mv.fresh (atT_lt h.mv.isT) ((Fresh.refl W).alloc o), at_alloc h.pt, at_alloc h.rz⟩
theorem Free0.call (h : Free0 n0 u o W) (m : Moved b W W' s' e') (hb : b < w.heap.size) (hn : w.heap.size ≤ n0) : Free0 n0 u o W' := fun y hy => by
  obtain ⟨zz, h1, h2, h3⟩ := h y hy
  exact ⟨zz, h1, h2, m.at h3 (by omega)⟩
theorem Free0.new (h : n0 ≤ W.heap.size) : Free0 n0 (some (.pointer (some ⟨W.heap.size, 0, none⟩))) o (W.alloc o) := fun y hy => by
  cases hy
  exact ⟨_, rfl, h, at_new W o⟩
/-- A container's seven cells stored. -/
def set7 (W : World) (z : Nat) (v0 v1 v2 v3 v4 v5 v6 : Value) : World := ((((((W.setCell ⟨z, 0, none⟩ v0).setCell ⟨z, 1, none⟩ v1).setCell ⟨z, 2, none⟩ v2).setCell ⟨z, 3, none⟩ v3).setCell ⟨z, 4, none⟩ v4).setCell ⟨z, 5, none⟩ v5).setCell ⟨z, 6, none⟩ v6
variable {z : Nat} {v0 v1 v2 v3 v4 v5 v6 : Value}
theorem set7_mv (h : Moved b w W s e) (hz : w.heap.size ≤ z) (hb : b < w.heap.size) : Moved b w (set7 W z v0 v1 v2 v3 v4 v5 v6) s e := ((((((h.off hz hb _ _).off hz hb _ _).off hz hb _ _).off hz hb _ _).off hz hb _ _).off hz hb _ _).off hz hb _ _
theorem set7_off {g : Nat} (h : W.heap[g]? = some o) (hne : g ≠ z) : (set7 W z v0 v1 v2 v3 v4 v5 v6).heap[g]? = some o := at_off (at_off (at_off (at_off (at_off (at_off (at_off h hne _) hne _) hne _) hne _) hne _) hne _) hne _
theorem set7_box {u0 u1 u2 u3 u4 u5 u6 : Value} {t : TypeId} (h : W.heap[z]? = some (.cells #[u0, u1, u2, u3, u4, u5, u6] t)) : (set7 W z v0 v1 v2 v3 v4 v5 v6).heap[z]? = some (.cells #[v0, v1, v2, v3, v4, v5, v6] t) := by
  simp [set7, World.setCell, Array.getElem?_modify, h]
theorem set7_own {B t k n : Nat} {v : Value} {xs : List Value} {u0 u1 u2 u3 u4 u5 u6 : Value} {tz : TypeId} (h : W.ownsRow B t k v n xs) (hz : W.heap[z]? = some (.cells #[u0, u1, u2, u3, u4, u5, u6] tz)) (hne : t ≠ tz) : (set7 W z v0 v1 v2 v3 v4 v5 v6).ownsRow B t k v n xs := by
  have z1 := at_set hz 0 v0
  have z2 := at_set z1 1 v1
  have z3 := at_set z2 2 v2
  have z4 := at_set z3 3 v3
  have z5 := at_set z4 4 v4
  have z6 := at_set z5 5 v5
  exact own_type (own_type (own_type (own_type (own_type (own_type (own_type h hz hne 0 v0) z1 hne 1 v1) z2 hne 2 v2) z3 hne 3 v3) z4 hne 4 v4) z5 hne 5 v5) z6 hne 6 v6
end
/-- The phases of a container's names. -/
def ContI (b p r : Nat) (w : World) (s s1 s2 : ByteArray) (e e1 e2 : Int) (x1 x2 : ByteArray) : List Value → Option Value → World → Prop
  | [], u, W => ContB b p r w s e W ∧ Free0 (w.heap.size + 2) u (.cells #[.string ⟨#[]⟩, .string ⟨#[]⟩, .slice none 0 0, .slice none 0 0, .int .i64 0, .int .i64 0, .slice none 0 0] 94) W
  | [y0], u, W => y0 = .string x1 ∧ ContB b p r w s1 e1 W ∧ Free0 (w.heap.size + 2) u (.cells #[.string ⟨#[]⟩, .string ⟨#[]⟩, .slice none 0 0, .slice none 0 0, .int .i64 0, .int .i64 0, .slice none 0 0] 94) W
  | [y0, y1], u, W => y0 = .string x1 ∧ y1 = .string x2 ∧ ContB b p r w s2 e2 W ∧ Free0 (w.heap.size + 2) u (.cells #[.string ⟨#[]⟩, .string ⟨#[]⟩, .slice none 0 0, .slice none 0 0, .int .i64 0, .int .i64 0, .slice none 0 0] 94) W
  | [y0, y1, _], u, W => y0 = .string x1 ∧ y1 = .string x2 ∧ ∃ zz, u = some (.pointer (some ⟨zz, 0, none⟩)) ∧ w.heap.size + 2 ≤ zz ∧ ContB b p r w s2 e2 W ∧ W.heap[zz]? = some (.cells #[.string x1, .string x2, .slice none 0 0, .slice none 0 0, .int .i64 0, .int .i64 0, .slice none 0 0] 94)
  | _, _, _ => False
section
variable {b p r : Nat} {w W : World} {s s1 s2 x1 x2 : ByteArray} {e e1 e2 : Int} {u : Option Value}
theorem ContI.mv0 (h : ContI b p r w s s1 s2 e e1 e2 x1 x2 [] u W) : Moved b w W s e := ContB.mv (And.left h)
theorem ContI.pt : ∀ {h : List Value}, ContI b p r w s s1 s2 e e1 e2 x1 x2 h u W → W.heap[p]? = some (.cells #[.pointer (some ⟨b, 0, none⟩)] 102)
  | [], h => ContB.pt (And.left h)
  | [_], h => ContB.pt (And.left (And.right h))
  | [_, _], h => ContB.pt (And.left (And.right (And.right h)))
  | [_, _, _], h => by
    obtain ⟨_, _, zz, _, _, hB, _⟩ := h
    exact hB.pt
theorem ContI.rz : ∀ {h : List Value}, ContI b p r w s s1 s2 e e1 e2 x1 x2 h u W → W.heap[r]? = some (.cells #[.string ⟨#[]⟩, .string ⟨#[]⟩, .slice none 0 0, .slice none 0 0, .int .i64 0, .int .i64 0, .slice none 0 0] 94)
  | [], h => ContB.rz (And.left h)
  | [_], h => ContB.rz (And.left (And.right h))
  | [_, _], h => ContB.rz (And.left (And.right (And.right h)))
  | [_, _, _], h => by
    obtain ⟨_, _, zz, _, _, hB, _⟩ := h
    exact hB.rz
theorem ContI.v0 : ∀ {h : List Value}, ContI b p r w s s1 s2 e e1 e2 x1 x2 h u W → 0 < h.length → h[0]? = some (.string x1)
  | [_], h, _ => congrArg some (And.left h)
  | [_, _], h, _ => congrArg some (And.left h)
  | [_, _, _], h, _ => congrArg some (And.left h)
theorem ContI.v1 : ∀ {h : List Value}, ContI b p r w s s1 s2 e e1 e2 x1 x2 h u W → 1 < h.length → h[1]? = some (.string x2)
  | [_], _, hl => by simp at hl
  | [_, _], h, _ => congrArg some (And.left (And.right h))
  | [_, _, _], h, _ => congrArg some (And.left (And.right h))
theorem ContI.alloc : ∀ {h : List Value}, ContI b p r w s s1 s2 e e1 e2 x1 x2 h none W → h.length ≤ 2 → (hw : w.heap.size + 2 ≤ W.heap.size) → ContI b p r w s s1 s2 e e1 e2 x1 x2 h (some (.pointer (some ⟨W.heap.size, 0, none⟩))) (W.alloc (.cells #[.string ⟨#[]⟩, .string ⟨#[]⟩, .slice none 0 0, .slice none 0 0, .int .i64 0, .int .i64 0, .slice none 0 0] 94))
  | [], h, _, hw => ⟨ContB.alloc (And.left h) _, Free0.new hw⟩
  | [_], h, _, hw => ⟨And.left h, ContB.alloc (And.left (And.right h)) _, Free0.new hw⟩
  | [_, _], h, _, hw => ⟨And.left h, And.left (And.right h), ContB.alloc (And.left (And.right (And.right h))) _, Free0.new hw⟩
  | _ :: _ :: _ :: _, _, hl, _ => by simp at hl
end
section
variable {s : ByteArray} {e : Int} {s1 s2 s3 s4 s5 s6 s7 s8 s9 t : ByteArray} {e1 e2 e3 e4 e5 e6 e7 e8 e9 f n1 n2 n3 : Int} {c : Ct}
theorem Ct3T.ok (h : Ct3T s e s1 s2 s3 s4 s5 s6 s7 s8 s9 t e1 e2 e3 e4 e5 e6 e7 e8 e9 f n1 n2 n3 c) (hf : f = 0) : e4 = 0 ∧ e6 = 0 := by
  constructor
  · refine Classical.byContradiction fun he => ?_
    have a5 := (up_keeps 1 (most := 16) (by decide) s4 e4 he).2
    rw [upF, h.h5] at a5
    dsimp only at a5
    exact he (by rw [← a5, ← h.err5 (by rw [a5]; exact he)]; exact hf)
  · refine Classical.byContradiction fun he => ?_
    have a7 := (take_keeps 4 s6 e6 he).2
    rw [takeF, h.h7] at a7
    dsimp only at a7
    have a8 := (take_keeps 4 s7 e7 (by rw [a7]; exact he)).2
    rw [takeF, h.h8] at a8
    dsimp only at a8
    have a9 := (up_keeps 1 (most := 16) (by decide) s8 e8 (by rw [a8, a7]; exact he)).2
    rw [upF, h.h9] at a9
    dsimp only at a9
    exact he (by rw [← a7, ← a8, ← a9, ← h.err9 (by rw [a9, a8, a7]; exact he)]; exact hf)
end
/-- A container's rows, in memory of its own. -/
structure COwn (W : World) (q : CM) : Prop where
  cmd : W.ownsRow 0 9 1 (.slice q.ca q.c.cmd.length q.cc) q.c.cmd.length (tcells q.c.cmd)
  ports : W.ownsRow 0 97 2 (.slice q.pa q.c.ports.length q.pc) q.c.ports.length (pcells q.c.ports)
  env : W.ownsRow 0 98 2 (.slice q.ea q.c.env.length q.ec) q.c.env.length (ecells q.c.env)
set_option maxHeartbeats 8000000 in
theorem cont3_any (b : Nat) (s s' : ByteArray) (e e' : Int) (c : Ct) (w : World) (hs : s.size ≤ maxLen) (ht : atT w b s e) (hx : ct3T s e = (s', e', c)) :
    Calls Tryz.prog 75 #[.pointer (some ⟨b, 0, none⟩)] w fun r W => ∃ q : CM, r = .returned q.val ∧ (e' = 0 → q.c = c) ∧ COwn W q ∧ Moved b w W s' e' := by
  obtain ⟨s1, s2, s3, s4, s5, s6, s7, s8, s9, t, e1, e2, e3, e4, e5, e6, e7, e8, e9, f, n1, n2, n3, c', hP⟩ := ct3T_ex s e
  obtain ⟨r1, r2, r3⟩ : t = s' ∧ f = e' ∧ c' = c := by
    have := (ct3T_eq hP).symm.trans hx
    simpa using this
  subst r1 r2 r3
  clear hx
  obtain ⟨x1, x2, xc, xp, x5, x6, xe⟩ := c'
  have h1 : textT s e = (s1, e1, x1) := hP.h1
  have h2 : textT s1 e1 = (s2, e2, x2) := hP.h2
  have HPP := Lib.hid hP
  have hb := atT_lt ht
  have hs1 : s1.size ≤ maxLen := Nat.le_trans hP.le.1 hs
  have hn0 : w.heap.size ≤ w.heap.size + 2 := by omega
  have HA := at_alloc (p := .cells #[.string ⟨#[]⟩, .string ⟨#[]⟩, .slice none 0 0, .slice none 0 0, .int .i64 0, .int .i64 0, .slice none 0 0] 94) (at_new w (.cells #[.pointer (some ⟨b, 0, none⟩)] 102))
  have HR := at_new (w.alloc (.cells #[.pointer (some ⟨b, 0, none⟩)] 102)) (.cells #[.string ⟨#[]⟩, .string ⟨#[]⟩, .slice none 0 0, .slice none 0 0, .int .i64 0, .int .i64 0, .slice none 0 0] 94)
  rw [World.size_alloc] at HR
  have HM := (Moved.refl ht).fresh hb (((Fresh.refl w).alloc (.cells #[.pointer (some ⟨b, 0, none⟩)] 102)).alloc (.cells #[.string ⟨#[]⟩, .string ⟨#[]⟩, .slice none 0 0, .slice none 0 0, .int .i64 0, .int .i64 0, .slice none 0 0] 94))
  clear hP
  go_enter Tryz.func75, Tryz.ntmps75
  go_wp2_with (fail)
  generalize (w.alloc (.cells #[.pointer (some ⟨b, 0, none⟩)] 102)).alloc (.cells #[.string ⟨#[]⟩, .string ⟨#[]⟩, .slice none 0 0, .slice none 0 0, .int .i64 0, .int .i64 0, .slice none 0 0] 94) = W0 at *
  obtain ⟨p, hp⟩ : ∃ p, p = w.heap.size := ⟨_, rfl⟩
  obtain ⟨r, hr⟩ : ∃ r, r = w.heap.size + 1 := ⟨_, rfl⟩
  rw [← hp] at HA
  rw [← hr] at HR
  rw [← hr, ← hp]
  have HB0 : ContB b p r w s e W0.drew := ⟨HM.drew, HA, HR⟩
  clear HA HR HM
  refine chainF_region [3, 7, 10] [some (Value.pointer (some ⟨b, 0, none⟩)), some (Value.pointer (some ⟨b, 0, none⟩)), some (Value.pointer (some ⟨b, 0, none⟩)), none, some (Value.pointer (some ⟨b, 0, none⟩)), some (Value.pointer (some ⟨b, 0, none⟩)), some (Value.pointer (some ⟨b, 0, none⟩)), none, some (Value.agg #[.string x1, .string x2, .slice none 0 0, .slice none 0 0, .int .i64 0, .int .i64 0, .slice none 0 0]), none, none] 9 (ContI b p r w s s1 s2 e e1 e2 x1 x2) mixed3 (n := 35) rfl (by decide +kernel) (ms := [true, true, true, false, true, true, true, false, true, false, false]) rfl (by decide +kernel) (⟨HB0, fun y hy => by cases hy⟩) rfl ⟨?_, ?_, ?_, ?_, ?_, ?_, ?_, ?_, ?_, ?_, ?_, trivial⟩ ?_
  · intro h u a W hI hfy hfn hvf hlo hhi hpos hvw hvr hst
    have g1 := ev_get (show a.eval (.tmp 1) = Value.pointer (some ⟨p, 0, none⟩) from hst 1 (by decide +kernel))
    have cq := cell_of_at (ContI.pt hI) (i := 0) rfl
    show (execOp a.eval _).run _ W = .ok (.value (Value.pointer (some ⟨b, 0, none⟩))) W
    simp [execOp, g1, go_sem, cq]
  · intro h u a W hI hfy hfn hvf hlo hhi hpos hvw hvr hst
    have g4 := ev_get (show a.eval (.tmp 4) = Value.pointer (some ⟨b, 0, none⟩) from hvr 0 4 _ (by decide +kernel) rfl rfl)
    show (execOp a.eval _).run _ W = .ok (.value (Value.pointer (some ⟨b, 0, none⟩))) W
    simp [execOp, g4, go_sem]
  · intro h u a W hI hfy hfn hvf hlo hhi hpos hvw hvr hst
    have g5 := ev_get (show a.eval (.tmp 5) = Value.pointer (some ⟨b, 0, none⟩) from hvr 1 5 _ (by decide +kernel) rfl rfl)
    show (execOp a.eval _).run _ W = .ok (.value (Value.pointer (some ⟨b, 0, none⟩))) W
    simp [execOp, g5, go_sem]
  · intro h u a W hI hfy hfn hvf hlo hhi hpos hvw hvr hst
    obtain rfl := lst0 (hpos 0 rfl)
    have g6 := ev_get (show a.eval (.tmp 6) = Value.pointer (some ⟨b, 0, none⟩) from hvr 2 6 _ (by decide +kernel) rfl rfl)
    refine .inr (.inr ⟨43, #[.pointer (some ⟨b, 0, none⟩)], by simp [execOp, g6, go_sem], (ttext_at W hs (ContI.mv0 hI).isT h1).mono ?_⟩)
    rintro r V ⟨rfl, hm⟩
    exact ⟨_, rfl, rfl, ContB.call (And.left hI) hm hb, Free0.call (And.right hI) hm hb hn0⟩
  · intro h u a W hI hfy hfn hvf hlo hhi hpos hvw hvr hst
    have g1 := ev_get (show a.eval (.tmp 1) = Value.pointer (some ⟨p, 0, none⟩) from hst 1 (by decide +kernel))
    have cq := cell_of_at (ContI.pt hI) (i := 0) rfl
    show (execOp a.eval _).run _ W = .ok (.value (Value.pointer (some ⟨b, 0, none⟩))) W
    simp [execOp, g1, go_sem, cq]
  · intro h u a W hI hfy hfn hvf hlo hhi hpos hvw hvr hst
    have g8 := ev_get (show a.eval (.tmp 8) = Value.pointer (some ⟨b, 0, none⟩) from hvr 4 8 _ (by decide +kernel) rfl rfl)
    show (execOp a.eval _).run _ W = .ok (.value (Value.pointer (some ⟨b, 0, none⟩))) W
    simp [execOp, g8, go_sem]
  · intro h u a W hI hfy hfn hvf hlo hhi hpos hvw hvr hst
    have g9 := ev_get (show a.eval (.tmp 9) = Value.pointer (some ⟨b, 0, none⟩) from hvr 5 9 _ (by decide +kernel) rfl rfl)
    show (execOp a.eval _).run _ W = .ok (.value (Value.pointer (some ⟨b, 0, none⟩))) W
    simp [execOp, g9, go_sem]
  · intro h u a W hI hfy hfn hvf hlo hhi hpos hvw hvr hst
    obtain ⟨y0, rfl⟩ := lst1 (hpos 1 rfl)
    have g10 := ev_get (show a.eval (.tmp 10) = Value.pointer (some ⟨b, 0, none⟩) from hvr 6 10 _ (by decide +kernel) rfl rfl)
    obtain ⟨rfl, hB, hF⟩ : y0 = .string x1 ∧ ContB b p r w s1 e1 W ∧ Free0 (w.heap.size + 2) u (.cells #[.string ⟨#[]⟩, .string ⟨#[]⟩, .slice none 0 0, .slice none 0 0, .int .i64 0, .int .i64 0, .slice none 0 0] 94) W := hI
    refine .inr (.inr ⟨43, #[.pointer (some ⟨b, 0, none⟩)], by simp [execOp, g10, go_sem], (ttext_at W hs1 hB.mv.isT h2).mono ?_⟩)
    rintro r V ⟨rfl, hm⟩
    exact ⟨_, rfl, rfl, rfl, hB.call hm hb, hF.call hm hb hn0⟩
  · intro h u a W hI hfy hfn hvf hlo hhi hpos hvw hvr hst
    have g7 := ev_get (hvw 0 3 7 (Value.string x1) rfl (ContI.v0 hI (hlo 0 3 rfl (by decide +kernel))) rfl)
    have g11 := ev_get (hvw 1 7 11 (Value.string x2) rfl (ContI.v1 hI (hlo 1 7 rfl (by decide +kernel))) rfl)
    show (execOp a.eval _).run _ W = .ok (.value (Value.agg #[.string x1, .string x2, .slice none 0 0, .slice none 0 0, .int .i64 0, .int .i64 0, .slice none 0 0])) W
    simp [execOp, g7, g11, go_sem]
  · intro h u a W hI hfy hfn hvf hlo hhi hpos hvw hvr hst
    obtain rfl := hfn rfl
    refine ⟨.pointer (some ⟨W.heap.size, 0, none⟩), W.alloc (.cells #[.string ⟨#[]⟩, .string ⟨#[]⟩, .slice none 0 0, .slice none 0 0, .int .i64 0, .int .i64 0, .slice none 0 0] 94), by simp [execOp, go_sem], ?_⟩
    exact ContI.alloc hI (hhi 2 10 rfl (by decide +kernel)) (by have := lt_of_at (ContI.rz hI); omega)
  · intro h u a W hI hfy hfn hvf hlo hhi hpos hvw hvr hst
    obtain ⟨y0, y1, rfl⟩ := lst2 (hpos 2 rfl)
    obtain ⟨yf, rfl⟩ := hfy (by decide +kernel)
    have g3 := ev_get (hvf yf 3 rfl rfl)
    have g12 := ev_get (show a.eval (.tmp 12) = Value.agg #[.string x1, .string x2, .slice none 0 0, .slice none 0 0, .int .i64 0, .int .i64 0, .slice none 0 0] from hvr 8 12 _ (by decide +kernel) rfl rfl)
    obtain ⟨rfl, rfl, hB, hF⟩ : y0 = .string x1 ∧ y1 = .string x2 ∧ ContB b p r w s2 e2 W ∧ Free0 (w.heap.size + 2) (some yf) (.cells #[.string ⟨#[]⟩, .string ⟨#[]⟩, .slice none 0 0, .slice none 0 0, .int .i64 0, .int .i64 0, .slice none 0 0] 94) W := hI
    obtain ⟨zz, rfl, hzz, hZ⟩ := hF yf rfl
    have c0 := cell_of_at hZ (i := 0) rfl
    have c1 := cell_of_at hZ (i := 1) rfl
    have c2 := cell_of_at hZ (i := 2) rfl
    have c3 := cell_of_at hZ (i := 3) rfl
    have c4 := cell_of_at hZ (i := 4) rfl
    have c5 := cell_of_at hZ (i := 5) rfl
    have c6 := cell_of_at hZ (i := 6) rfl
    have f0 := frozen_of_at hZ 0
    have f1 := frozen_of_at hZ 1
    have f2 := frozen_of_at hZ 2
    have f3 := frozen_of_at hZ 3
    have f4 := frozen_of_at hZ 4
    have f5 := frozen_of_at hZ 5
    have f6 := frozen_of_at hZ 6
    refine .inr (.inl ⟨set7 W zz (.string x1) (.string x2) (.slice none 0 0) (.slice none 0 0) (.int .i64 0) (.int .i64 0) (.slice none 0 0), rfl, by simp [execOp, g3, g12, go_sem, c0, c1, c2, c3, c4, c5, c6, f0, f1, f2, f3, f4, f5, f6, set7], rfl, rfl, ?_⟩)
    exact ⟨zz, rfl, hzz, ⟨set7_mv hB.mv (by omega) hb, set7_off hB.pt (by omega), set7_off hB.rz (by omega)⟩, set7_box hZ⟩
  intro h u a W hh hl
  obtain ⟨y0, y1, y2, rfl⟩ := lst3 hl
  obtain ⟨rfl, rfl, zz, rfl, hzz, hB, hZ⟩ : y0 = .string x1 ∧ y1 = .string x2 ∧ ∃ zz, u = some (.pointer (some ⟨zz, 0, none⟩)) ∧ w.heap.size + 2 ≤ zz ∧ ContB b p r w s2 e2 W ∧ W.heap[zz]? = some (.cells #[.string x1, .string x2, .slice none 0 0, .slice none 0 0, .int .i64 0, .int .i64 0, .slice none 0 0] 94) := hh.inv
  have ha := act_lit (n := 35) (by rw [hh.size]; rfl) hh.defers
  have k0 : a.eval (.tmp 0) = Value.pointer (some ⟨b, 0, none⟩) := hh.keep 0 (by decide +kernel)
  have k1 : a.eval (.tmp 1) = Value.pointer (some ⟨p, 0, none⟩) := hh.keep 1 (by decide +kernel)
  have k2 : a.eval (.tmp 2) = Value.pointer (some ⟨r, 0, none⟩) := hh.keep 2 (by decide +kernel)
  have k3 : a.eval (.tmp 3) = Value.pointer (some ⟨zz, 0, none⟩) := hh.vf _ 3 rfl rfl
  simp only [List.range, List.range.loop, List.map_cons, List.map_nil, k0, k1, k2, k3] at ha
  clear k0 k1 k2 k3
  generalize a.eval (.tmp 4) = v4 at ha
  generalize a.eval (.tmp 5) = v5 at ha
  generalize a.eval (.tmp 6) = v6 at ha
  generalize a.eval (.tmp 7) = v7 at ha
  generalize a.eval (.tmp 8) = v8 at ha
  generalize a.eval (.tmp 9) = v9 at ha
  generalize a.eval (.tmp 10) = v10 at ha
  generalize a.eval (.tmp 11) = v11 at ha
  generalize a.eval (.tmp 12) = v12 at ha
  generalize a.eval (.tmp 13) = v13 at ha
  generalize a.eval (.tmp 14) = v14 at ha
  generalize a.eval (.tmp 15) = v15 at ha
  generalize a.eval (.tmp 16) = v16 at ha
  generalize a.eval (.tmp 17) = v17 at ha
  generalize a.eval (.tmp 18) = v18 at ha
  generalize a.eval (.tmp 19) = v19 at ha
  generalize a.eval (.tmp 20) = v20 at ha
  generalize a.eval (.tmp 21) = v21 at ha
  generalize a.eval (.tmp 22) = v22 at ha
  generalize a.eval (.tmp 23) = v23 at ha
  generalize a.eval (.tmp 24) = v24 at ha
  generalize a.eval (.tmp 25) = v25 at ha
  generalize a.eval (.tmp 26) = v26 at ha
  generalize a.eval (.tmp 27) = v27 at ha
  generalize a.eval (.tmp 28) = v28 at ha
  generalize a.eval (.tmp 29) = v29 at ha
  generalize a.eval (.tmp 30) = v30 at ha
  generalize a.eval (.tmp 31) = v31 at ha
  generalize a.eval (.tmp 32) = v32 at ha
  generalize a.eval (.tmp 33) = v33 at ha
  generalize a.eval (.tmp 34) = v34 at ha
  clear hh
  subst ha
  have hzw : w.heap.size ≤ zz := by omega
  have hzb : zz ≠ b := by omega
  have hrz : r ≠ zz := by omega
  have hrb : r ≠ b := by omega
  have hrw : w.heap.size ≤ r := by omega
  have hpb : p ≠ b := by omega
  have hpz : p ≠ zz := by omega
  clear hp hr
  have HL := Lib.hid (HPP.out.le)
  have HS2 : Hid (s2.size ≤ maxLen) := Nat.le_trans HL.out.2.1 hs
  have HS4 : Hid (s4.size ≤ maxLen) := Nat.le_trans HL.out.2.2.2.1 hs
  have HS6 : Hid (s6.size ≤ maxLen) := Nat.le_trans HL.out.2.2.2.2.2.1 hs
  have HS7 : Hid (s7.size ≤ maxLen) := Nat.le_trans HL.out.2.2.2.2.2.2.1 hs
  have HS8 : Hid (s8.size ≤ maxLen) := Nat.le_trans HL.out.2.2.2.2.2.2.2.1 hs
  have hfit := HPP.out.fit
  have hw5 : IntKind.i64.wrap x5 = x5 := wrap_i64s hfit.cpu0 hfit.cpu1
  have hw6 : IntKind.i64.wrap x6 = x6 := wrap_i64s hfit.mem0 hfit.mem1
  have HB := Lib.hid hB
  have HZ := Lib.hid hZ
  have q1 : World.cell? _ ⟨p, 0, none⟩ = some (.pointer (some ⟨b, 0, none⟩)) := cell_of_at hB.pt rfl
  have HC1 := Lib.hid (list_lay text_keeps text_less (proj := id) (enc := tcell) (Ex := fun _ _ => True) (wL := W) (fun _ _ _ _ _ _ _ => trivial) (cmd_step b p zz x1 x2 (.slice none 0 0) (.slice none 0 0) (.slice none 0 0) 0 0 w hb hzw) (fun _ => by kernel_rfl) HS2.out ⟨hB.mv, hB.pt, hZ, World.ownsRow_nil _ _ _ _, .refl _ _ _⟩ hb (by decide) HPP.out.h3 HPP.out.h4)
  clear hB hZ hfit HB0 hs hs1 h1 h2 ht
  refine ‹∀ (a : Act) (w : World), Code.wp _ _ _ a w → _› _ W ?_
  go_wp2_with (fail)
  refine HC1.out.mono ?_
  rintro r1 W1 ⟨rfl, o1, c1, D1, hP1, hD1, hl1, -⟩
  have HC2 := Lib.hid (list_lay port_keeps port_less (proj := id) (enc := pcell) (Ex := fun _ _ => True) (wL := W1) (fun _ _ _ _ _ _ _ => trivial) (port_step b p zz x1 x2 (.slice o1 D1.length c1) (.slice none 0 0) (.slice none 0 0) 0 0 w hb hzw) (fun _ => by kernel_rfl) HS4.out ⟨hP1.mv, hP1.pt, hP1.bx, World.ownsRow_nil _ _ _ _, .refl _ _ _⟩ hb (by decide) HPP.out.h5 HPP.out.h6)
  have HR1 := Lib.hid (hP1.fr _ _ _ _ HB.out.rz (by decide) hrz (by decide))
  have HP1 := Lib.hid hP1
  have HD1 := Lib.hid hD1
  have q1 : World.cell? _ ⟨p, 0, none⟩ = some (.pointer (some ⟨b, 0, none⟩)) := cell_of_at hP1.pt rfl
  clear hP1 hD1 HC1 HB HZ
  go_wp2_with (fail)
  refine HC2.out.mono ?_
  rintro r2 W2 ⟨rfl, o2, c2, D2, hP2, hD2, hl2, -⟩
  have HR2 := Lib.hid (hP2.fr _ _ _ _ HR1.out (by decide) hrz (by decide))
  have HO1 := Lib.hid (own_fr HP1.out.own hP2.fr HP1.out.bx (by decide) (by decide) (by decide))
  have HP2 := Lib.hid hP2
  have HD2 := Lib.hid hD2
  have q1 : World.cell? _ ⟨p, 0, none⟩ = some (.pointer (some ⟨b, 0, none⟩)) := cell_of_at hP2.pt rfl
  clear hP2 hD2 HC2 HR1 HP1
  go_wp2_with (fail)
  refine (take_at W2 HS6.out HP2.out.mv.isT HPP.out.h7).mono ?_
  rintro r3 W3 ⟨rfl, hm3⟩
  have HZ3 := Lib.hid (hm3.at HP2.out.bx hzb)
  have HR3 := Lib.hid (at_off (hm3.at HR2.out hrb) hrz (i := 4) (.int .i64 x5))
  have HT3 := Lib.hid (at_off (hm3.at HP2.out.pt hpb) hpz (i := 4) (.int .i64 x5))
  have HO1 := Lib.hid (own_type (own_moved HO1.out hm3 hb) HZ3.out (by decide) 4 (.int .i64 x5))
  have HO2 := Lib.hid (own_type (own_moved HP2.out.own hm3 hb) HZ3.out (by decide) 4 (.int .i64 x5))
  have HM3 := Lib.hid ((HP2.out.mv.trans hm3).off hzw hb 4 (.int .i64 x5))
  have HZ4 := Lib.hid (at_set HZ3.out 4 (.int .i64 x5))
  have c4 := cell_of_at HZ3.out (i := 4) rfl
  have f4 := frozen_of_at HZ3.out 4
  have q1 : World.cell? _ ⟨p, 0, none⟩ = some (.pointer (some ⟨b, 0, none⟩)) := cell_of_at (hm3.at HP2.out.pt hpb) rfl
  have q2 : World.cell? _ ⟨p, 0, none⟩ = some (.pointer (some ⟨b, 0, none⟩)) := cell_of_at HT3.out rfl
  clear hm3
  go_wp2_with (fail)
  refine (take_at _ HS7.out HM3.out.isT HPP.out.h8).mono ?_
  rintro r4 W5 ⟨rfl, hm5⟩
  have HZ5 := Lib.hid (hm5.at HZ4.out hzb)
  have HR5 := Lib.hid (at_off (hm5.at HR3.out hrb) hrz (i := 5) (.int .i64 x6))
  have HT5 := Lib.hid (at_off (hm5.at HT3.out hpb) hpz (i := 5) (.int .i64 x6))
  have HO1 := Lib.hid (own_type (own_moved HO1.out hm5 hb) HZ5.out (by decide) 5 (.int .i64 x6))
  have HO2 := Lib.hid (own_type (own_moved HO2.out hm5 hb) HZ5.out (by decide) 5 (.int .i64 x6))
  have HM5 := Lib.hid ((HM3.out.trans hm5).off hzw hb 5 (.int .i64 x6))
  have HZ6 := Lib.hid (at_set HZ5.out 5 (.int .i64 x6))
  have c5 := cell_of_at HZ5.out (i := 5) rfl
  have f5 := frozen_of_at HZ5.out 5
  have q3 : World.cell? _ ⟨p, 0, none⟩ = some (.pointer (some ⟨b, 0, none⟩)) := cell_of_at (hm5.at HT3.out hpb) rfl
  have q4 : World.cell? _ ⟨p, 0, none⟩ = some (.pointer (some ⟨b, 0, none⟩)) := cell_of_at HT5.out rfl
  have HC3 := Lib.hid (list_lay env_keeps env_less (proj := id) (enc := ecell) (Ex := fun _ _ => True) (wL := W5.setCell ⟨zz, 5, none⟩ (.int .i64 x6)) (fun _ _ _ _ _ _ _ => trivial) (env_step b p zz x1 x2 (.slice o1 D1.length c1) (.slice o2 D2.length c2) (.slice none 0 0) x5 x6 w hb hzw) (fun _ => by kernel_rfl) HS8.out ⟨HM5.out, HT5.out, HZ6.out, World.ownsRow_nil _ _ _ _, .refl _ _ _⟩ hb (by decide) HPP.out.h9 HPP.out.h10)
  clear hm5 HZ3 HZ4 HM3 HR3 HT3 HR2 HP2 q2 c4 f4
  go_wp2_with (fail)
  refine HC3.out.mono ?_
  rintro r5 W7 ⟨rfl, o3, c3, D3, hP3, hD3, hl3, -⟩
  have HR7 := Lib.hid (hP3.fr _ _ _ _ HR5.out (by decide) hrz (by decide))
  have HO1 := Lib.hid (own_fr HO1.out hP3.fr HZ6.out (by decide) (by decide) (by decide))
  have HO2 := Lib.hid (own_fr HO2.out hP3.fr HZ6.out (by decide) (by decide) (by decide))
  have HP3 := Lib.hid hP3
  have HD3 := Lib.hid hD3
  clear hP3 hD3 HC3 HZ5 HZ6 HM5 HR5 HT5 q3 q4 c5 f5 q1
  have c0 := cell_of_at HP3.out.bx (i := 0) rfl
  have c1' := cell_of_at HP3.out.bx (i := 1) rfl
  have c2' := cell_of_at HP3.out.bx (i := 2) rfl
  have c3' := cell_of_at HP3.out.bx (i := 3) rfl
  have c4 := cell_of_at HP3.out.bx (i := 4) rfl
  have c5 := cell_of_at HP3.out.bx (i := 5) rfl
  have c6 := cell_of_at HP3.out.bx (i := 6) rfl
  have g0 := cell_of_at HR7.out (i := 0) rfl
  have g1 := cell_of_at HR7.out (i := 1) rfl
  have g2 := cell_of_at HR7.out (i := 2) rfl
  have g3 := cell_of_at HR7.out (i := 3) rfl
  have g4 := cell_of_at HR7.out (i := 4) rfl
  have g5 := cell_of_at HR7.out (i := 5) rfl
  have g6 := cell_of_at HR7.out (i := 6) rfl
  have f0 := frozen_of_at HR7.out 0
  have f1 := frozen_of_at HR7.out 1
  have f2 := frozen_of_at HR7.out 2
  have f3 := frozen_of_at HR7.out 3
  have f4 := frozen_of_at HR7.out 4
  have f5 := frozen_of_at HR7.out 5
  have f6 := frozen_of_at HR7.out 6
  clear HS2 HS4 HS6 HS7 HS8 HL hw5 hw6
  go_wp2
  refine bodyPost_ret (v := .agg #[.string x1, .string x2, .slice o1 D1.length c1, .slice o2 D2.length c2, .int .i64 x5, .int .i64 x6, .slice o3 D3.length c3]) (by simp [results, Tryz.results75, go_sem, *]) rfl ⟨⟨⟨x1, x2, D1, D2, x5, x6, D3⟩, o1, c1, o2, c2, o3, c3⟩, rfl, fun he => ?_, ⟨?_, ?_, ?_⟩, ?_⟩
  · obtain ⟨k4, k6⟩ := HPP.out.ok he
    have d1 := HD1.out k4
    have d2 := HD2.out k6
    have d3 := HD3.out he
    simp only [List.map_id] at d1 d2 d3
    rw [d1, d2, d3]
  · exact World.ownsRow.mono (set7_own HO1.out HR7.out (by decide)) (Nat.zero_le _)
  · exact World.ownsRow.mono (set7_own HO2.out HR7.out (by decide)) (Nat.zero_le _)
  · exact World.ownsRow.mono (set7_own HP3.out.own HR7.out (by decide)) (Nat.zero_le _)
  · exact set7_mv HP3.out.mv hrw hb
end Go.Proofs.YtmomlgkpdoapoaaGreatDoor.K

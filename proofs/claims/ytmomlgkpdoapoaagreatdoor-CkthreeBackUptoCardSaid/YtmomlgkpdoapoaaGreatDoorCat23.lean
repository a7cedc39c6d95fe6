/-
  How many there are, and each of them laid: the taker of package ckthree.
  'x.f = append(x.f, ..)' in a closure of ckthree's taker, whatever is appended: what stands while it goes; and a list of such.
  A port that package ckthree takes (printed by genc3.py.txt).
-/
import Derived.Test.YtmomlgkpdoapoaaGreatDoorCat06
import Derived.Test.YtmomlgkpdoapoaaGreatDoorCat03
set_option linter.unusedSimpArgs false
set_option linter.unusedVariables false
namespace Go.Proofs.YtmomlgkpdoapoaaGreatDoor.K
open Go.ChangeShapes Go.WideShapes Go.ChangeAt Go.RowKit
set_option maxRecDepth 100000

set_option maxHeartbeats 2000000 in
theorem upto3_any (b F x y : Nat) (most n : Int) (s s1 : ByteArray) (e e1 : Int) (N : Nat) (w : World) (I : Nat → ByteArray → Int → World → Prop)
    (hs : s.size ≤ maxLen) (ht : atT w b s e) (hu : upT s e n most = (s1, e1, (N : Int))) (hN : N ≤ 1024) (hm0 : 0 ≤ most)
    (h0 : ∀ W, Moved b w W s1 e1 → I 0 s1 e1 W) (hI : ∀ k s e W, I k s e W → atT W b s e)
    (hF : ∀ W, (callFunc F #[.pointer (some ⟨x, 0, none⟩), .pointer (some ⟨y, 0, none⟩)]).run Tryz.prog W = .ok (.enter F #[.pointer (some ⟨x, 0, none⟩), .pointer (some ⟨y, 0, none⟩)]) W)
    (hst : ∀ k s W, k < N → I k s 0 W → Calls Tryz.prog F #[.pointer (some ⟨x, 0, none⟩), .pointer (some ⟨y, 0, none⟩)] W fun r W' => r = .returned (.tuple #[]) ∧ ∃ s2 e2, I (k + 1) s2 e2 W') :
    Calls Tryz.prog 41 #[.pointer (some ⟨b, 0, none⟩), .int .u64 most, .int .i64 n, .func (.func F) #[] #[.pointer (some ⟨x, 0, none⟩), .pointer (some ⟨y, 0, none⟩)]] w fun r W' => r = .returned (.tuple #[]) ∧ ∃ k s2 e2, I k s2 e2 W' ∧ k ≤ N ∧ (k = N ∨ e2 ≠ 0) := by
  obtain ⟨t1, t2, t3, htk⟩ : ∃ t1 t2 t3, takeT s e n = (t1, t2, t3) := ⟨_, _, _, rfl⟩
  have HT := Lib.hid (take_at w hs ht htk)
  have HU : Hid ((if most < t3 then (t1, 18, 0) else (t1, t2, t3)) = (s1, e1, (N : Int))) := by
    have := hu
    unfold upT at this
    rw [htk] at this
    exact this
  have HZ : Hid (e1 ≠ 0 → N = 0) := fun h => by have := upT_zero hu h; omega
  have H0 := Lib.hid h0
  have HI := Lib.hid hI
  have HST := Lib.hid hst
  have HF := Lib.hid hF
  clear hu htk ht hs h0 hI hF hst
  by_cases hm : most < t3
  · have HR : Hid ((t1, (18 : Int), (0 : Int)) = (s1, e1, (N : Int))) := by have := HU.out; rwa [if_pos hm] at this
    obtain ⟨r1, r2, r3⟩ : t1 = s1 ∧ (18 : Int) = e1 ∧ (0 : Int) = (N : Int) := by have := HR.out; simpa using this
    obtain rfl : N = 0 := by omega
    subst r1 r2
    clear HU HR r3
    go_enter Tryz.func41, Tryz.ntmps41
    go_wp2_with (fail)
    refine HT.out.mono ?_
    rintro r w1 ⟨rfl, hm1⟩
    obtain ⟨k0, k1, f0, f1⟩ := atT_facts hm1.isT
    have HM := Lib.hid hm1
    clear hm1
    go_wp2
    all_goals try (exfalso; omega)
    (try simp only [Exit.inBlock, Exit.then])
    refine bodyPost_ret (results_none rfl _ _ _) rfl ?_
    exact ⟨rfl, 0, _, _, H0.out _ (HM.out.error 18), Nat.le_refl _, .inl rfl⟩
  · obtain ⟨r1, r2, r3⟩ : t1 = s1 ∧ t2 = e1 ∧ t3 = (N : Int) := by
      have := HU.out
      rw [if_neg hm] at this
      simpa using this
    subst r1 r2 r3
    clear HU
    go_enter Tryz.func41, Tryz.ntmps41
    go_wp2_with (fail)
    refine HT.out.mono ?_
    rintro r w1 ⟨rfl, hm1⟩
    have HIS := Lib.hid (H0.out _ hm1)
    clear hm1
    go_wp2
    all_goals try (exfalso; omega)
    go_loopw [22] (fun a22 wr => ∃ (k : Nat) (s : ByteArray) (e : Int), a22 = .int .u64 (k : Int) ∧ k ≤ N ∧ Hid (e ≠ 0 → k = N) ∧ Hid (I k s e wr)) (fun a22 _ => N - (intOf a22).toNat)
    case atStart => exact ⟨0, t1, t2, rfl, Nat.zero_le _, (fun h => (HZ.out h).symm), HIS.out⟩
    case round =>
      clear HIS
      obtain ⟨k, s, e, rfl, hk, HE, HK⟩ := hrel
      by_cases hlt : k < N
      · obtain rfl : e = 0 := Classical.byContradiction fun h => by have := HE.out h; omega
        have HC := Lib.hid (HST.out k s wr hlt HK.out)
        clear HK HE
        go_wp2_with (fail)
        all_goals try (exfalso; omega)
        rw [HF.out, Oper.upon_enter]
        refine HC.out.mono ?_
        rintro r w5 ⟨rfl, s2, e2, hk2⟩
        obtain ⟨k0, k1, f0, f1⟩ := atT_facts (HI.out _ _ _ _ hk2)
        have HK := Lib.hid hk2
        clear hk2 HC
        by_cases he : e2 = 0
        · subst he
          go_wp2
          go_roundw
          case rel => exact ⟨k + 1, s2, 0, by simp, by omega, fun h => absurd rfl h, HK.out⟩
          case measure => simp [intOf]; omega
        · have e0 : (e2 != 0) = true := by simpa using he
          have HX := Lib.hid he
          clear he
          go_wp2
          (try simp only [Exit.inBlock, Exit.then])
          refine bodyPost_ret (results_none rfl _ _ _) rfl ?_
          exact ⟨rfl, k + 1, s2, e2, HK.out, hlt, .inr HX.out⟩
      · obtain rfl : k = N := by omega
        go_wp2
        all_goals try (exfalso; omega)
        go_end0
        exact ⟨rfl, k, s, e, HK.out, Nat.le_refl _, .inl rfl⟩
theorem list3_any (b F x y : Nat) (s s1 : ByteArray) (e e1 : Int) (N : Nat) (w : World) (I : Nat → ByteArray → Int → World → Prop)
    (hs : s.size ≤ maxLen) (ht : atT w b s e) (hu : upT s e 1 16 = (s1, e1, (N : Int))) (hN : N ≤ 1024)
    (h0 : ∀ W, Moved b w W s1 e1 → I 0 s1 e1 W) (hI : ∀ k s e W, I k s e W → atT W b s e)
    (hF : ∀ W, (callFunc F #[.pointer (some ⟨x, 0, none⟩), .pointer (some ⟨y, 0, none⟩)]).run Tryz.prog W = .ok (.enter F #[.pointer (some ⟨x, 0, none⟩), .pointer (some ⟨y, 0, none⟩)]) W)
    (hst : ∀ k s W, k < N → I k s 0 W → Calls Tryz.prog F #[.pointer (some ⟨x, 0, none⟩), .pointer (some ⟨y, 0, none⟩)] W fun r W' => r = .returned (.tuple #[]) ∧ ∃ s2 e2, I (k + 1) s2 e2 W') :
    Calls Tryz.prog 73 #[.pointer (some ⟨b, 0, none⟩), .func (.func F) #[] #[.pointer (some ⟨x, 0, none⟩), .pointer (some ⟨y, 0, none⟩)]] w fun r W' => r = .returned (.tuple #[]) ∧ ∃ k s2 e2, I k s2 e2 W' ∧ k ≤ N ∧ (k = N ∨ e2 ≠ 0) := by
  have HU := Lib.hid (upto3_any b F x y 16 1 s s1 e e1 N w I hs ht hu hN (by decide) h0 hI hF hst)
  clear hs ht hu h0 hI hF hst
  go_enter Tryz.func73, Tryz.ntmps73
  go_wp2_with (fail)
  refine HU.out.mono ?_
  rintro r w1 ⟨rfl, k, s2, e2, h1, h2, h3⟩
  go_wp2
  go_end0
  exact ⟨rfl, k, s2, e2, h1, h2, h3⟩
end Go.Proofs.YtmomlgkpdoapoaaGreatDoor.K
namespace Go.Proofs.YtmomlgkpdoapoaaGreatDoor.K
open Go.ChangeShapes Go.WideShapes Go.ChangeAt Go.RowKit
set_option maxRecDepth 100000

theorem infoS : (Tryz.prog.info? 9).map (fun i => (i.zero, i.size, i.bytes)) = some (some (.string ⟨#[]⟩), 1, 16) := by kernel_rfl
theorem mixed3 : Tryz.prog.follows .mixedOrders = true := by kernel_rfl
theorem Moved.drew {b : Nat} {w w1 : World} {s : ByteArray} {e : Int} (h : Moved b w w1 s e) : Moved b w w1.drew s e := h.fresh (atT_lt h.isT) (Fresh.refl _).drew
/-- What stands while an item is being laid. -/
structure Ph (b p z : Nat) (S T : TypeId) (sz k : Nat) (cz : Array Value) (v : Value) (xs : List Value) (w0 w1 : World) (s : ByteArray) (e : Int) (W : World) : Prop where
  mv : Moved b w0 W s e
  pt : W.heap[p]? = some (.cells #[.pointer (some ⟨b, 0, none⟩)] 102)
  bx : W.heap[z]? = some (.cells cz S)
  own : W.ownsRow w0.heap.size T sz v k xs
  fr : Fr z T w1 W
section
variable {b p z : Nat} {S T : TypeId} {sz k : Nat} {cz : Array Value} {v : Value} {xs : List Value} {w0 w1 W W' : World} {s s' : ByteArray} {e e' : Int}
theorem Ph.call (h : Ph b p z S T sz k cz v xs w0 w1 s e W) (m : Moved b W W' s' e') (hb : b < w0.heap.size) (hS : S ≠ 106) : Ph b p z S T sz k cz v xs w0 w1 s' e' W' := by
  have h0 := h.mv.isT
  have hpb : p ≠ b := fun e2 => by
    have h1 := h.pt
    unfold atT at h0
    rw [e2, h0] at h1
    cases h1
  have hzb : z ≠ b := fun e2 => by
    have h1 := h.bx
    unfold atT at h0
    rw [e2, h0] at h1
    cases h1
    exact hS rfl
  exact ⟨h.mv.trans m, m.at h.pt hpb, m.at h.bx hzb, own_moved h.own m hb, h.fr.trans (Fr.moved m h.mv.isT)⟩
theorem Ph.drew (h : Ph b p z S T sz k cz v xs w0 w1 s e W) : Ph b p z S T sz k cz v xs w0 w1 s e W.drew := ⟨h.mv.drew, h.pt, h.bx, own_fresh h.own (Fresh.refl _).drew, h.fr.trans (Fr.of (Fresh.refl _).drew)⟩
end
section
variable {α : Type} {b p z i : Nat} {S T : TypeId} {sz k : Nat} {cz : Array Value} {v : Value} {xs : List Value} {w0 w1 W W' : World} {m : Nat} {st : List (ByteArray × Int)} {xv news : α → List Value} {E : Nat → α → World → Prop} {h : List Value}
/-- What stands between the operations: m values are taken, then buildSlice, append, store. -/
def LayI (b p z i : Nat) (S T : TypeId) (sz k : Nat) (cz : Array Value) (v : Value) (xs : List Value) (w0 w1 : World) (m : Nat) (st : List (ByteArray × Int)) (xv news : α → List Value) (E : Nat → α → World → Prop) (h : List Value) (w : World) : Prop :=
  ∃ x : α, (∀ (q : Nat) (y : Value), (xv x)[q]? = some y → q < h.length → h[q]? = some y) ∧
    (h.length ≤ m → ∃ s e, st[h.length]? = some (s, e) ∧ Ph b p z S T sz k cz v xs w0 w1 s e w ∧ E h.length x w) ∧
    (h.length = m + 1 → ∃ s e W2, st[m]? = some (s, e) ∧ Ph b p z S T sz k cz v xs w0 w1 s e W2 ∧ E m x W2 ∧ w = W2.alloc (.cells (news x).toArray T) ∧ h[m]? = some (.slice (some ⟨W2.heap.size, 0, none⟩) 1 1)) ∧
    (h.length = m + 2 → ∃ s e W2 g cap, st[m]? = some (s, e) ∧ Ph b p z S T sz k cz v xs w0 w1 s e W2 ∧ E m x W2 ∧ h[m + 1]? = some (.slice (some ⟨g, 0, none⟩) (k + 1) cap) ∧ Laid b i z w0.heap.size sz S T cz W2 w w0 s e (.slice (some ⟨g, 0, none⟩) (k + 1) cap) (k + 1) (xs ++ news x)) ∧
    (h.length = m + 3 → ∃ s e W2 w3 g cap, st[m]? = some (s, e) ∧ Ph b p z S T sz k cz v xs w0 w1 s e W2 ∧ E m x W2 ∧ Laid b i z w0.heap.size sz S T cz W2 w3 w0 s e (.slice (some ⟨g, 0, none⟩) (k + 1) cap) (k + 1) (xs ++ news x) ∧ w = w3.setCell ⟨z, i, none⟩ (.slice (some ⟨g, 0, none⟩) (k + 1) cap))
theorem LayI.start {s : ByteArray} {e : Int} (x : α) (hP : Ph b p z S T sz k cz v xs w0 w1 s e W) (hs : st[0]? = some (s, e)) (hE : E 0 x W) : LayI b p z i S T sz k cz v xs w0 w1 m st xv news E [] W :=
  ⟨x, fun q y _ hq => by simp at hq, fun _ => ⟨s, e, hs, hP, hE⟩, fun h => by simp at h, fun h => by simp at h, fun h => by simp at h⟩
theorem LayI.bx (hI : LayI b p z i S T sz k cz v xs w0 w1 m st xv news E h W) (hl : h.length ≤ m + 1) : W.heap[z]? = some (.cells cz S) ∧ W.heap[p]? = some (.cells #[.pointer (some ⟨b, 0, none⟩)] 102) := by
  obtain ⟨x, _, h1, h2, _, _⟩ := hI
  rcases Nat.lt_or_ge m h.length with hm | hm
  · obtain ⟨s, e, W2, _, hP, _, rfl, _⟩ := h2 (by omega)
    exact ⟨at_alloc hP.bx, at_alloc hP.pt⟩
  · obtain ⟨s, e, _, hP, _⟩ := h1 hm
    exact ⟨hP.bx, hP.pt⟩
theorem LayI.val (hI : LayI b p z i S T sz k cz v xs w0 w1 m st xv news E h W) (q : Nat) (y : Value) (hy : ∀ x, (xv x)[q]? = some y) (hq : q < h.length) : h[q]? = some y := by
  obtain ⟨x, h0, _⟩ := hI
  exact h0 q y (hy x) hq
theorem LayI.ph {s : ByteArray} {e : Int} (hI : LayI b p z i S T sz k cz v xs w0 w1 m st xv news E h W) (hl : h.length ≤ m) (hst : st[h.length]? = some (s, e)) : Ph b p z S T sz k cz v xs w0 w1 s e W := by
  obtain ⟨x, _, h1, _⟩ := hI
  obtain ⟨s2, e2, h2, hP, _⟩ := h1 hl
  rw [hst] at h2
  cases h2
  exact hP
/-- A value more. -/
theorem LayI.more {s : ByteArray} {e : Int} {y : Value} (hI : LayI b p z i S T sz k cz v xs w0 w1 m st xv news E h W) (hl : h.length < m) (hst : st[h.length + 1]? = some (s, e)) (hP : Ph b p z S T sz k cz v xs w0 w1 s e W')
    (f : α → α) (hf : ∀ x, (∀ (q : Nat) (y : Value), (xv x)[q]? = some y → q < h.length → h[q]? = some y) → E h.length x W → (∀ q, q < h.length → (xv (f x))[q]? = (xv x)[q]?) ∧ (xv (f x))[h.length]? = some y ∧ E (h.length + 1) (f x) W') : LayI b p z i S T sz k cz v xs w0 w1 m st xv news E (h ++ [y]) W' := by
  obtain ⟨x, h0, h1, _⟩ := hI
  obtain ⟨s2, e2, h2, hP2, hE⟩ := h1 (by omega)
  obtain ⟨f1, f2, f3⟩ := hf x h0 hE
  refine ⟨f x, fun q u hu hq => ?_, fun _ => ⟨s, e, by rw [List.length_append]; exact hst, hP, by rw [List.length_append]; exact f3⟩, fun hh => ?_, fun hh => ?_, fun hh => ?_⟩
  · rw [List.length_append, List.length_singleton] at hq
    rcases Nat.lt_or_ge q h.length with hq2 | hq2
    · rw [List.getElem?_append_left hq2]
      rw [f1 q hq2] at hu
      exact h0 q u hu hq2
    · have : q = h.length := by omega
      subst this
      rw [f2] at hu
      rw [List.getElem?_append_right (Nat.le_refl _), Nat.sub_self]
      exact hu
  · rw [List.length_append, List.length_singleton] at hh; omega
  · rw [List.length_append, List.length_singleton] at hh; omega
  · rw [List.length_append, List.length_singleton] at hh; omega
theorem LayI.last (hI : LayI b p z i S T sz k cz v xs w0 w1 m st xv news E h W) (hl : h.length = m) : ∃ x s e, (∀ (q : Nat) (y : Value), (xv x)[q]? = some y → q < h.length → h[q]? = some y) ∧ st[m]? = some (s, e) ∧ Ph b p z S T sz k cz v xs w0 w1 s e W ∧ E m x W := by
  obtain ⟨x, h0, h1, _⟩ := hI
  obtain ⟨s, e, h2, hP, hE⟩ := h1 (by omega)
  rw [hl] at h2 hE
  exact ⟨x, s, e, h0, h2, hP, hE⟩
theorem LayI.slice {x : α} {s : ByteArray} {e : Int} (hl : h.length = m) (hxl : (xv x).length ≤ m) (h0 : ∀ (q : Nat) (y : Value), (xv x)[q]? = some y → q < h.length → h[q]? = some y) (h2 : st[m]? = some (s, e)) (hP : Ph b p z S T sz k cz v xs w0 w1 s e W) (hE : E m x W) :
    LayI b p z i S T sz k cz v xs w0 w1 m st xv news E (h ++ [.slice (some ⟨W.heap.size, 0, none⟩) 1 1]) (W.alloc (.cells (news x).toArray T)) := by
  refine ⟨x, fun q u hu hq => ?_, fun hh => ?_, fun _ => ⟨s, e, W, h2, hP, hE, rfl, by rw [List.getElem?_append_right (by omega), hl, Nat.sub_self]; rfl⟩, fun hh => ?_, fun hh => ?_⟩
  · have hq2 : q < h.length := by have := (List.getElem?_eq_some_iff.1 hu).1; omega
    rw [List.getElem?_append_left hq2]
    exact h0 q u hu hq2
  · rw [List.length_append, List.length_singleton] at hh; omega
  · rw [List.length_append, List.length_singleton] at hh; omega
  · rw [List.length_append, List.length_singleton] at hh; omega
theorem LayI.app {o : Option Addr} {c by0 : Nat} {tl : TypeId} {i0 : TypeInfo} {zv : Value} (hxl : ∀ x, (xv x).length ≤ m) (hv : v = .slice o k c)
    (ht : Tryz.prog.underlying tl = some (.slice T)) (hi : Tryz.prog.info? T = some i0) (hz0 : i0.zero = some zv) (hz1 : i0.size = sz) (hz2 : i0.bytes = by0) (hzs : zv.cells.size = sz) (hsz : 0 < sz)
    (hb : b < w0.heap.size) (hzw : w0.heap.size ≤ z) (hST : T ≠ S) (hnl : ∀ x, (news x).length = sz) (h1 : ∀ x, ∀ u ∈ news x, u.oneCell' = true) (hk : k ≤ 1048576) (hby : by0 ≤ 1000)
    (hI : LayI b p z i S T sz k cz v xs w0 w1 m st xv news E h W) (hl : h.length = m + 1) :
    ∃ y g cap w3, h[m]? = some y ∧ (Builtin.append_ #[tl, tl] tl #[.slice o k c, y]).run Tryz.prog W = .ok (.slice (some ⟨g, 0, none⟩) (k + 1) cap) w3 ∧ LayI b p z i S T sz k cz v xs w0 w1 m st xv news E (h ++ [.slice (some ⟨g, 0, none⟩) (k + 1) cap]) w3 := by
  obtain ⟨x, h0, _, h2, _, _⟩ := hI
  obtain ⟨s, e, W2, hst, hP, hE, rfl, hy⟩ := h2 hl
  subst hv
  obtain ⟨g, cap, w3, hrun, hL⟩ := lay_app (i := i) (tl := tl) (news x) ht hi hz0 hz1 hz2 hzs hsz hP.mv hb hP.bx hzw hP.own hST (hnl x) (h1 x) hk hby
  refine ⟨_, g, cap, w3, hy, hrun, x, fun q u hu hq => ?_, fun hh => ?_, fun hh => ?_, fun _ => ⟨s, e, W2, g, cap, hst, hP, hE, by rw [List.getElem?_append_right (by omega), hl, Nat.sub_self]; rfl, hL⟩, fun hh => ?_⟩
  · have hq2 : q < h.length := by have := (List.getElem?_eq_some_iff.1 hu).1; have := hxl x; omega
    rw [List.getElem?_append_left hq2]
    exact h0 q u hu hq2
  · rw [List.length_append, List.length_singleton] at hh; omega
  · rw [List.length_append, List.length_singleton] at hh; omega
  · rw [List.length_append, List.length_singleton] at hh; omega
theorem LayI.store (hxl : ∀ x, (xv x).length ≤ m) (hI : LayI b p z i S T sz k cz v xs w0 w1 m st xv news E h W) (hl : h.length = m + 2) :
    ∃ g cap, h[m + 1]? = some (.slice (some ⟨g, 0, none⟩) (k + 1) cap) ∧ W.heap[z]? = some (.cells cz S) ∧ LayI b p z i S T sz k cz v xs w0 w1 m st xv news E (h ++ [undef]) (W.setCell ⟨z, i, none⟩ (.slice (some ⟨g, 0, none⟩) (k + 1) cap)) := by
  obtain ⟨x, h0, _, _, h2, _⟩ := hI
  obtain ⟨s, e, W2, g, cap, hst, hP, hE, hy, hL⟩ := h2 hl
  refine ⟨g, cap, hy, hL.atz, x, fun q u hu hq => ?_, fun hh => ?_, fun hh => ?_, fun hh => ?_, fun _ => ⟨s, e, W2, W, g, cap, hst, hP, hE, hL, rfl⟩⟩
  · have hq2 : q < h.length := by have := (List.getElem?_eq_some_iff.1 hu).1; have := hxl x; omega
    rw [List.getElem?_append_left hq2]
    exact h0 q u hu hq2
  · rw [List.length_append, List.length_singleton] at hh; omega
  · rw [List.length_append, List.length_singleton] at hh; omega
  · rw [List.length_append, List.length_singleton] at hh; omega
theorem LayI.fin {s : ByteArray} {e : Int} (hI : LayI b p z i S T sz k cz v xs w0 w1 m st xv news E h W) (hl : h.length = m + 3) (hst : st[m]? = some (s, e)) (hS : S ≠ 102) (hT : T ≠ 102) :
    ∃ x W2 g cap, E m x W2 ∧ Ph b p z S T sz k cz v xs w0 w1 s e W2 ∧ Fr z T W2 W ∧ Ph b p z S T sz (k + 1) (cz.setIfInBounds i (.slice (some ⟨g, 0, none⟩) (k + 1) cap)) (.slice (some ⟨g, 0, none⟩) (k + 1) cap) (xs ++ news x) w0 w1 s e W := by
  obtain ⟨x, _, _, _, _, h3⟩ := hI
  obtain ⟨s2, e2, W2, w3, g, cap, h2, hP, hE, hL, rfl⟩ := h3 hl
  rw [hst] at h2
  cases h2
  exact ⟨x, W2, g, cap, hE, hP, hL.fr, hL.mv, hL.fr _ _ _ _ hP.pt (by decide) (fun e2 => by have h1 := hP.pt; rw [e2, hP.bx] at h1; cases h1; exact hS rfl) hT.symm, hL.put, hL.own, hP.fr.trans hL.fr⟩
end
/-! ### a list of such -/
section
variable {β μ : Type}
/-- What stands between the items of a list. -/
def LI (f : TakeF β) (proj : μ → β) (enc : μ → List Value) (Ex : World → μ → Prop) (b p z : Nat) (S T : TypeId) (sz : Nat) (mk : Value → Array Value) (w0 wL : World) (N : Nat) (s1 : ByteArray) (e1 : Int) (k : Nat) (s : ByteArray) (e : Int) (W : World) : Prop :=
  ∃ (o : Option Addr) (c : Nat) (D : List μ) (Lm : List β), D.length = k ∧ Lm.length = k ∧ (e = 0 → D.map proj = Lm) ∧ manyT f N s1 e1 = aheadM Lm (manyT f (N - k) s e) ∧ s.size ≤ maxLen ∧
    Ph b p z S T sz k (mk (.slice o k c)) (.slice o k c) (D.flatMap enc) w0 wL s e W ∧ ∀ m ∈ D, Ex W m
/-- What a closure that lays an item does. -/
def LStep (f : TakeF β) (proj : μ → β) (enc : μ → List Value) (Ex : World → μ → Prop) (b p z : Nat) (S T : TypeId) (sz : Nat) (mk : Value → Array Value) (w0 : World) (F : Nat) : Prop :=
  ∀ (k : Nat) (o : Option Addr) (c : Nat) (D : List μ) (wL : World) (s : ByteArray) (W : World) (s' : ByteArray) (e' : Int) (x : β), k < 1024 → s.size ≤ maxLen → Ph b p z S T sz k (mk (.slice o k c)) (.slice o k c) (D.flatMap enc) w0 wL s 0 W → f s 0 = (s', e', x) →
    Calls Tryz.prog F #[.pointer (some ⟨z, 0, none⟩), .pointer (some ⟨p, 0, none⟩)] W fun r W' => r = .returned (.tuple #[]) ∧ ∃ g c' m, Ph b p z S T sz (k + 1) (mk (.slice (some ⟨g, 0, none⟩) (k + 1 : Nat) c')) (.slice (some ⟨g, 0, none⟩) (k + 1 : Nat) c') ((D ++ [m]).flatMap enc) w0 wL s' e' W' ∧ (e' = 0 → proj m = x) ∧ Ex W' m ∧ Fr z T W W'
theorem LI.step {f : TakeF β} (hlt : LessT f) {proj : μ → β} {enc : μ → List Value} {Ex : World → μ → Prop} {b p z : Nat} {S T : TypeId} {sz : Nat} {mk : Value → Array Value} {w0 wL : World} {N : Nat} {s1 : ByteArray} {e1 : Int} {F : Nat}
    (hEx : ∀ (W W' : World) (m : μ) (cz : Array Value), W.heap[z]? = some (.cells cz S) → Ex W m → Fr z T W W' → Ex W' m) (hst : LStep f proj enc Ex b p z S T sz mk w0 F) (hN : N ≤ 1024) (k : Nat) (s : ByteArray) (W : World) (hk : k < N) (hI : LI f proj enc Ex b p z S T sz mk w0 wL N s1 e1 k s 0 W) :
    Calls Tryz.prog F #[.pointer (some ⟨z, 0, none⟩), .pointer (some ⟨p, 0, none⟩)] W fun r W' => r = .returned (.tuple #[]) ∧ ∃ s2 e2, LI f proj enc Ex b p z S T sz mk w0 wL N s1 e1 (k + 1) s2 e2 W' := by
  obtain ⟨o, c, D, Lm, h1, h2, h3, h4, h5, hP, hD⟩ := hI
  obtain ⟨s', e', x, hx⟩ : ∃ s' e' x, f s 0 = (s', e', x) := ⟨_, _, _, rfl⟩
  refine (hst k o c D wL s W s' e' x (by omega) h5 hP hx).mono ?_
  rintro r W' ⟨rfl, g, c', m, hP', hm, hex, hfr⟩
  refine ⟨rfl, s', e', some ⟨g, 0, none⟩, c', D ++ [m], Lm ++ [x], by simp [h1], by simp [h2], fun he => by rw [List.map_append, h3 rfl, List.map_cons, List.map_nil, hm he], h4.trans (manyT_step hk hx Lm), ?_, hP', fun y hy => ?_⟩
  · have := hlt s 0
    rw [hx] at this
    exact Nat.le_trans this h5
  · rcases List.mem_append.1 hy with hy | hy
    · exact hEx _ _ _ _ hP.bx (hD y hy) hfr
    · simp at hy; subst hy; exact hex
theorem LI.fin {f : TakeF β} (hkp : KeepsE f) {proj : μ → β} {enc : μ → List Value} {Ex : World → μ → Prop} {b p z : Nat} {S T : TypeId} {sz : Nat} {mk : Value → Array Value} {w0 wL W : World} {N k : Nat} {s1 s2 s4 : ByteArray} {e1 e2 e4 : Int} {L : List β}
    (hI : LI f proj enc Ex b p z S T sz mk w0 wL N s1 e1 k s2 e2 W) (hk : k ≤ N) (hkn : k = N ∨ e2 ≠ 0) (hm : manyT f N s1 e1 = (s4, e4, L)) :
    ∃ (o : Option Addr) (c : Nat) (D : List μ), Ph b p z S T sz D.length (mk (.slice o D.length c)) (.slice o D.length c) (D.flatMap enc) w0 wL s4 e4 W ∧ (e4 = 0 → D.map proj = L) ∧ D.length ≤ N ∧ ∀ m ∈ D, Ex W m := by
  obtain ⟨o, c, D, Lm, h1, h2, h3, h4, h5, hP, hD⟩ := hI
  rw [hm] at h4
  subst h1
  by_cases he : e2 = 0
  · have hkN : D.length = N := by rcases hkn with h | h; exact h; exact absurd he h
    rw [hkN, Nat.sub_self] at h4
    simp only [aheadM, manyT, List.append_nil, Prod.mk.injEq] at h4
    obtain ⟨rfl, rfl, rfl⟩ := h4
    exact ⟨o, c, D, hP, fun _ => h3 he, by omega, hD⟩
  · have h6 := manyT_err hkp (N - D.length) (s := s2) he
    simp only [aheadM, Prod.mk.injEq] at h4
    obtain ⟨h7, h8, h9⟩ := h4
    rw [h6.1] at h7
    rw [h6.2] at h8
    subst h7 h8
    exact ⟨o, c, D, hP, fun h => absurd h he, hk, hD⟩
theorem LI.start {f : TakeF β} {proj : μ → β} {enc : μ → List Value} {Ex : World → μ → Prop} {b p z : Nat} {S T : TypeId} {sz : Nat} {mk : Value → Array Value} {w0 wL W W' : World} {N : Nat} {s s1 : ByteArray} {e e1 : Int}
    (hP : Ph b p z S T sz 0 (mk (.slice none 0 0)) (.slice none 0 0) [] w0 wL s e W) (hM : Moved b W W' s1 e1) (hb : b < w0.heap.size) (hS : S ≠ 106) (hs : s1.size ≤ maxLen) : LI f proj enc Ex b p z S T sz mk w0 wL N s1 e1 0 s1 e1 W' :=
  ⟨none, 0, [], [], rfl, rfl, fun _ => rfl, by rw [Nat.sub_zero]; rfl, hs, hP.call hM hb hS, fun _ hm => absurd hm List.not_mem_nil⟩
/-- A list of a pod or of a container. -/
theorem list_lay {f : TakeF β} (hkp : KeepsE f) (hlt : LessT f) {proj : μ → β} {enc : μ → List Value} {Ex : World → μ → Prop} {b p z : Nat} {S T : TypeId} {sz : Nat} {mk : Value → Array Value} {w0 wL W : World} {s s1 s4 : ByteArray} {e e1 e4 n : Int} {L : List β} {F : Nat}
    (hEx : ∀ (W W' : World) (m : μ) (cz : Array Value), W.heap[z]? = some (.cells cz S) → Ex W m → Fr z T W W' → Ex W' m) (hst : LStep f proj enc Ex b p z S T sz mk w0 F) (hF : ∀ W, (callFunc F #[.pointer (some ⟨z, 0, none⟩), .pointer (some ⟨p, 0, none⟩)]).run Tryz.prog W = .ok (.enter F #[.pointer (some ⟨z, 0, none⟩), .pointer (some ⟨p, 0, none⟩)]) W)
    (hs : s.size ≤ maxLen) (hP : Ph b p z S T sz 0 (mk (.slice none 0 0)) (.slice none 0 0) [] w0 wL s e W) (hb : b < w0.heap.size) (hS : S ≠ 106) (hu : upT s e 1 16 = (s1, e1, n)) (hm : manyT f n.toNat s1 e1 = (s4, e4, L)) :
    Calls Tryz.prog 73 #[.pointer (some ⟨b, 0, none⟩), .func (.func F) #[] #[.pointer (some ⟨z, 0, none⟩), .pointer (some ⟨p, 0, none⟩)]] W fun r W' => r = .returned (.tuple #[]) ∧
      ∃ (o : Option Addr) (c : Nat) (D : List μ), Ph b p z S T sz D.length (mk (.slice o D.length c)) (.slice o D.length c) (D.flatMap enc) w0 wL s4 e4 W' ∧ (e4 = 0 → D.map proj = L) ∧ D.length ≤ 16 ∧ ∀ m ∈ D, Ex W' m := by
  have hbd := up_bounds s e
  rw [hu] at hbd
  obtain ⟨hn0, hn1⟩ := hbd
  dsimp only at hn0 hn1
  obtain ⟨N, rfl⟩ := Int.eq_ofNat_of_zero_le hn0
  rw [Int.toNat_natCast] at hm
  have hs1 : s1.size ≤ maxLen := by have := upT_less s e 1 16; rw [hu] at this; exact Nat.le_trans this hs
  refine (list3_any b F z p s s1 e e1 N W (LI f proj enc Ex b p z S T sz mk w0 wL N s1 e1) hs hP.mv.isT hu (by omega) (fun W' hM => LI.start hP hM hb hS hs1) (fun k s e W h => ?_) hF (fun k s W hk h => LI.step hlt hEx hst (by omega) k s W hk h)).mono ?_
  · obtain ⟨_, _, _, _, _, _, _, _, _, hP, _⟩ := h
    exact hP.mv.isT
  · rintro r W' ⟨rfl, k, s2, e2, hI, hk, hkn⟩
    obtain ⟨o, c, D, h1, h2, h3, h4⟩ := LI.fin hkp hI hk hkn hm
    exact ⟨rfl, o, c, D, h1, h2, by omega, h4⟩
end
end Go.Proofs.YtmomlgkpdoapoaaGreatDoor.K
namespace Go.Proofs.YtmomlgkpdoapoaaGreatDoor.K
open Go.ChangeShapes Go.WideShapes Go.ChangeAt Go.RowKit
set_option maxRecDepth 100000
set_option linter.unusedSimpArgs false

/-- The phases of a port's takes. -/
def PortI (b z : Nat) (w : World) (s t1 t2 : ByteArray) (e d1 d2 x1 x2 : Int) : List Value → World → Prop
  | [], W => Moved b w W s e ∧ W.heap[z]? = some (.cells #[.int .i64 0, .int .i64 0] 97)
  | [y0], W => y0 = .int .u64 x1 ∧ Moved b w W t1 d1 ∧ W.heap[z]? = some (.cells #[.int .i64 0, .int .i64 0] 97)
  | [y0, y1], W => y0 = .int .u64 x1 ∧ y1 = .int .u64 x2 ∧ Moved b w W t2 d2 ∧ W.heap[z]? = some (.cells #[.int .i64 0, .int .i64 0] 97)
  | [_, _, _], W => Moved b w W t2 d2 ∧ W.heap[z]? = some (.cells #[.int .i64 x1, .int .i64 x2] 97)
  | _, _ => False
section
variable {b z : Nat} {w W : World} {s t1 t2 : ByteArray} {e d1 d2 x1 x2 : Int}
theorem PortI.mv : ∀ {h : List Value}, PortI b z w s t1 t2 e d1 d2 x1 x2 h W → h = [] → Moved b w W s e
  | [], h, _ => And.left h
theorem PortI.zr : ∀ {h : List Value}, PortI b z w s t1 t2 e d1 d2 x1 x2 h W → h.length ≤ 2 → W.heap[z]? = some (.cells #[.int .i64 0, .int .i64 0] 97)
  | [], h, _ => And.right h
  | [_], h, _ => And.right (And.right h)
  | [_, _], h, _ => And.right (And.right (And.right h))
  | _ :: _ :: _ :: _, _, hl => by simp at hl
theorem PortI.v0 : ∀ {h : List Value}, PortI b z w s t1 t2 e d1 d2 x1 x2 h W → 0 < h.length → h.length ≤ 2 → h[0]? = some (.int .u64 x1)
  | [_], h, _, _ => congrArg some (And.left h)
  | [_, _], h, _, _ => congrArg some (And.left h)
  | _ :: _ :: _ :: _, _, _, hl => by simp at hl
theorem PortI.v1 : ∀ {h : List Value}, PortI b z w s t1 t2 e d1 d2 x1 x2 h W → 1 < h.length → h.length ≤ 2 → h[1]? = some (.int .u64 x2)
  | [_], _, hl, _ => by simp at hl
  | [_, _], h, _, _ => congrArg some (And.left (And.right h))
  | _ :: _ :: _ :: _, _, _, hl => by simp at hl
end
theorem wrap_i64s {r : Int} (h0 : 0 ≤ r) (h1 : r < 4294967296) : IntKind.i64.wrap r = r := by
  simp [IntKind.wrap, IntKind.signed, IntKind.bits]; omega
set_option maxHeartbeats 4000000 in
theorem port3_any (b : Nat) (s s' : ByteArray) (e e' : Int) (x : Int × Int) (w : World) (hs : s.size ≤ maxLen) (ht : atT w b s e) (hx : portT s e = (s', e', x)) :
    Calls Tryz.prog 105 #[.pointer (some ⟨b, 0, none⟩)] w fun r W => r = .returned (.agg #[.int .i64 x.1, .int .i64 x.2]) ∧ Moved b w W s' e' := by
  obtain ⟨t1, d1, x1, h1⟩ : ∃ t1 d1 x1, takeT s e 2 = (t1, d1, x1) := ⟨_, _, _, rfl⟩
  obtain ⟨t2, d2, x2, h2⟩ : ∃ t2 d2 x2, takeT t1 d1 1 = (t2, d2, x2) := ⟨_, _, _, rfl⟩
  rw [portT, andT_eq (f := takeF 2) h1, andT_eq (f := takeF 1) h2] at hx
  simp only [retT, Prod.mk.injEq] at hx
  obtain ⟨rfl, rfl, rfl⟩ := hx
  have hv1 := take_bounds s e 2
  rw [show ((2 : Nat) : Int) = 2 from rfl, h1] at hv1
  have hv2 := take_bounds t1 d1 1
  rw [show ((1 : Nat) : Int) = 1 from rfl, h2] at hv2
  dsimp only at hv1 hv2
  have hw1 := wrap_i64s (r := x1) hv1.1 (by omega)
  have hw2 := wrap_i64s (r := x2) hv2.1 (by omega)
  have hs1 : t1.size ≤ maxLen := Nat.le_trans (take_len h1) hs
  have hb := atT_lt ht
  have HM0 : Moved b w (w.alloc (.cells #[.int .i64 0, .int .i64 0] 97)).drew s e := ((Moved.refl ht).fresh hb ((Fresh.refl w).alloc _)).drew
  have HZ0 : (w.alloc (.cells #[.int .i64 0, .int .i64 0] 97)).drew.heap[w.heap.size]? = some (.cells #[.int .i64 0, .int .i64 0] 97) := at_new w _
  dsimp only
  go_enter Tryz.func105, Tryz.ntmps105
  go_wp2_with (fail)
  generalize w.alloc (.cells #[.int .i64 0, .int .i64 0] 97) = W0 at *
  obtain ⟨z, hz⟩ : ∃ z, z = w.heap.size := ⟨_, rfl⟩
  rw [← hz] at HZ0 ⊢
  have hzw : w.heap.size ≤ z := by omega
  have hzb : z ≠ b := by omega
  clear hz ht
  refine chain_region [3, 8, 11] [some (Value.pointer (some ⟨b, 0, none⟩)), some (Value.pointer (some ⟨b, 0, none⟩)), some (Value.pointer (some ⟨b, 0, none⟩)), none, some (Value.int .i64 x1), some (Value.pointer (some ⟨b, 0, none⟩)), some (Value.pointer (some ⟨b, 0, none⟩)), some (Value.pointer (some ⟨b, 0, none⟩)), none, some (Value.int .i64 x2), some (Value.agg #[.int .i64 x1, .int .i64 x2]), none] (PortI b z w s t1 t2 e d1 d2 x1 x2) mixed3 (n := 14) rfl (by decide +kernel) (ms := [true, true, true, false, true, true, true, true, false, true, true, false]) rfl (by decide +kernel) (⟨HM0, HZ0⟩) ⟨?_, ?_, ?_, ?_, ?_, ?_, ?_, ?_, ?_, ?_, ?_, ?_, trivial⟩ ?_
  · intro h a W hI hlo hhi hpos hvw hvr hst
    have g0 := ev_get (show a.eval (.tmp 0) = Value.pointer (some ⟨b, 0, none⟩) from hst 0 (by decide +kernel))
    show (execOp a.eval _).run _ W = .ok (.value (Value.pointer (some ⟨b, 0, none⟩))) W
    simp [execOp, g0, go_sem]
  · intro h a W hI hlo hhi hpos hvw hvr hst
    have g3 := ev_get (show a.eval (.tmp 3) = Value.pointer (some ⟨b, 0, none⟩) from hvr 0 3 _ (by decide +kernel) rfl rfl)
    show (execOp a.eval _).run _ W = .ok (.value (Value.pointer (some ⟨b, 0, none⟩))) W
    simp [execOp, g3, go_sem]
  · intro h a W hI hlo hhi hpos hvw hvr hst
    have g4 := ev_get (show a.eval (.tmp 4) = Value.pointer (some ⟨b, 0, none⟩) from hvr 1 4 _ (by decide +kernel) rfl rfl)
    show (execOp a.eval _).run _ W = .ok (.value (Value.pointer (some ⟨b, 0, none⟩))) W
    simp [execOp, g4, go_sem]
  · intro h a W hI hlo hhi hpos hvw hvr hst
    obtain rfl := lst0 (hpos 0 rfl)
    have g5 := ev_get (show a.eval (.tmp 5) = Value.pointer (some ⟨b, 0, none⟩) from hvr 2 5 _ (by decide +kernel) rfl rfl)
    refine .inr (.inr ⟨40, #[.pointer (some ⟨b, 0, none⟩), .int .i64 2], by simp [execOp, g5, go_sem], (take_at W hs (PortI.mv hI rfl).isT h1).mono ?_⟩)
    rintro r V ⟨rfl, hm⟩
    exact ⟨_, rfl, rfl, (PortI.mv hI rfl).trans hm, hm.at (PortI.zr hI (by simp)) hzb⟩
  · intro h a W hI hlo hhi hpos hvw hvr hst
    have g6 := ev_get (hvw 0 3 6 (Value.int .u64 x1) rfl (PortI.v0 hI (hlo 0 3 rfl (by decide +kernel)) (hhi 2 11 rfl (by decide +kernel))) rfl)
    show (execOp a.eval _).run _ W = .ok (.value (Value.int .i64 x1)) W
    simp [execOp, g6, go_sem, hw1]
  · intro h a W hI hlo hhi hpos hvw hvr hst
    have g0 := ev_get (show a.eval (.tmp 0) = Value.pointer (some ⟨b, 0, none⟩) from hst 0 (by decide +kernel))
    show (execOp a.eval _).run _ W = .ok (.value (Value.pointer (some ⟨b, 0, none⟩))) W
    simp [execOp, g0, go_sem]
  · intro h a W hI hlo hhi hpos hvw hvr hst
    have g8 := ev_get (show a.eval (.tmp 8) = Value.pointer (some ⟨b, 0, none⟩) from hvr 5 8 _ (by decide +kernel) rfl rfl)
    show (execOp a.eval _).run _ W = .ok (.value (Value.pointer (some ⟨b, 0, none⟩))) W
    simp [execOp, g8, go_sem]
  · intro h a W hI hlo hhi hpos hvw hvr hst
    have g9 := ev_get (show a.eval (.tmp 9) = Value.pointer (some ⟨b, 0, none⟩) from hvr 6 9 _ (by decide +kernel) rfl rfl)
    show (execOp a.eval _).run _ W = .ok (.value (Value.pointer (some ⟨b, 0, none⟩))) W
    simp [execOp, g9, go_sem]
  · intro h a W hI hlo hhi hpos hvw hvr hst
    obtain ⟨y0, rfl⟩ := lst1 (hpos 1 rfl)
    have g10 := ev_get (show a.eval (.tmp 10) = Value.pointer (some ⟨b, 0, none⟩) from hvr 7 10 _ (by decide +kernel) rfl rfl)
    obtain ⟨rfl, hM, hZ⟩ : y0 = .int .u64 x1 ∧ Moved b w W t1 d1 ∧ W.heap[z]? = some (.cells #[.int .i64 0, .int .i64 0] 97) := hI
    refine .inr (.inr ⟨40, #[.pointer (some ⟨b, 0, none⟩), .int .i64 1], by simp [execOp, g10, go_sem], (take_at W hs1 hM.isT h2).mono ?_⟩)
    rintro r V ⟨rfl, hm⟩
    exact ⟨_, rfl, rfl, rfl, hM.trans hm, hm.at hZ hzb⟩
  · intro h a W hI hlo hhi hpos hvw hvr hst
    have g11 := ev_get (hvw 1 8 11 (Value.int .u64 x2) rfl (PortI.v1 hI (hlo 1 8 rfl (by decide +kernel)) (hhi 2 11 rfl (by decide +kernel))) rfl)
    show (execOp a.eval _).run _ W = .ok (.value (Value.int .i64 x2)) W
    simp [execOp, g11, go_sem, hw2]
  · intro h a W hI hlo hhi hpos hvw hvr hst
    have g7 := ev_get (show a.eval (.tmp 7) = Value.int .i64 x1 from hvr 4 7 _ (by decide +kernel) rfl rfl)
    have g12 := ev_get (show a.eval (.tmp 12) = Value.int .i64 x2 from hvr 9 12 _ (by decide +kernel) rfl rfl)
    show (execOp a.eval _).run _ W = .ok (.value (Value.agg #[.int .i64 x1, .int .i64 x2])) W
    simp [execOp, g7, g12, go_sem]
  · intro h a W hI hlo hhi hpos hvw hvr hst
    obtain ⟨y0, y1, rfl⟩ := lst2 (hpos 2 rfl)
    have g2 := ev_get (show a.eval (.tmp 2) = Value.pointer (some ⟨z, 0, none⟩) from hst 2 (by decide +kernel))
    have g13 := ev_get (show a.eval (.tmp 13) = Value.agg #[.int .i64 x1, .int .i64 x2] from hvr 10 13 _ (by decide +kernel) rfl rfl)
    obtain ⟨rfl, rfl, hM, hZ⟩ : y0 = .int .u64 x1 ∧ y1 = .int .u64 x2 ∧ Moved b w W t2 d2 ∧ W.heap[z]? = some (.cells #[.int .i64 0, .int .i64 0] 97) := hI
    have c0 := cell_of_at hZ (i := 0) rfl
    have c1 := cell_of_at hZ (i := 1) rfl
    have f0 := frozen_of_at hZ 0
    have f1 := frozen_of_at hZ 1
    exact .inr (.inl ⟨(W.setCell ⟨z, 0, none⟩ (.int .i64 x1)).setCell ⟨z, 1, none⟩ (.int .i64 x2), rfl, by simp [execOp, g2, g13, go_sem, c0, c1, f0, f1], (hM.off hzw hb _ _).off hzw hb _ _, at_set (at_set hZ 0 _) 1 _⟩)
  intro h a W hh hl
  obtain ⟨y0, y1, y2, rfl⟩ := lst3 hl
  obtain ⟨hM, hZ⟩ : Moved b w W t2 d2 ∧ W.heap[z]? = some (.cells #[.int .i64 x1, .int .i64 x2] 97) := hh.inv
  have e2 := ev_get (show a.eval (.tmp 2) = Value.pointer (some ⟨z, 0, none⟩) from hh.keep 2 (by decide +kernel))
  have c0 := cell_of_at hZ (i := 0) rfl
  have c1 := cell_of_at hZ (i := 1) rfl
  have f0 := frozen_of_at hZ 0
  have f1 := frozen_of_at hZ 1
  refine ‹∀ (a : Act) (w : World), Code.wp _ _ _ a w → _› a W ?_
  have hdf := hh.defers
  clear hh
  go_wp2
  refine bodyPost_ret (v := .agg #[.int .i64 x1, .int .i64 x2]) (by simp [results, Tryz.results105, go_sem, e2, c0, c1, f0, f1]) hdf ?_
  exact ⟨rfl, hM⟩
end Go.Proofs.YtmomlgkpdoapoaaGreatDoor.K

/-
  Parts of the proof: VText VAlike VRdepth VKeys.
-/
import Derived.Test.YtcljplkkgpjhlaaGreatDoorRCat02
import Derived.Test.YtcljplkkgpjhlaaGreatDoorRCat04
import Derived.Deep.DeepCutAuto
import Derived.Deep.CutRange
import Derived.Deep.CutBlock
import Derived.Test.YtcljplkkgpjhlaaGreatDoorRCat03
import Derived.Maps.Own
import Derived.Maps.OwnOps
import Derived.Maps.OwnSet
set_option maxRecDepth 100000
set_option maxHeartbeats 8000000
namespace Go.Proofs.YtcljplkkgpjhlaaGreatDoorR
namespace v
open Go.ChangeShapes Go.WideShapes Go.ChangeAt Go.RowKit
variable {w : World}
def Tabs (w : World) : Prop := Lib.Utf8Tabs (Tryz.laysValid_ren.g 3) (Tryz.laysValid_ren.g 4) w
theorem Tabs.move {w w' : World} (h : Tabs w) (f : Fresh w w') : Tabs w' := Utf8Tabs_below h f
theorem ret_int {k : IntKind} {a b : Int} (h : a = b) : Ending.returned (.int k a) = .returned (.int k b) := by rw [h]
theorem ret_bool {a b : Bool} (h : a = b) : Ending.returned (.bool a) = .returned (.bool b) := by rw [h]
theorem valid_any (s : ByteArray) (w : World) (hs : s.size ≤ 1000000) (hT : Tabs w) : Calls Tryz.prog 104 #[.string s] w fun e w' => e = .returned (.bool (Lib.validD s.data.toList)) ∧ Fresh w w' :=
  Any.utf8_ValidString Tryz.laysValid s w (by omega) hT
theorem textFault_any (s : ByteArray) (w : World) (hs : s.size ≤ 1000000) (hT : Tabs w) : Calls Tryz.prog 122 #[.string s] w fun e w' => e = .returned (.int .i64 (textW s)) ∧ Fresh w w' := by
  have HV := Lib.hid (valid_any s w hs hT)
  clear hT
  unfold textW
  generalize Lib.validD s.data.toList = b at *
  cases b with
  | false =>
    go_enter Tryz.func122, Tryz.ntmps122
    go_wp2_with fail
    refine HV.out.mono ?_
    rintro e w1 ⟨rfl, hf⟩
    go_wp2
    go_ret
    exact ⟨rfl, hf⟩
  | true =>
    by_cases hl : 4096 < s.size
    · have H : Hid ((if true = true then (if 4096 < s.size then (2 : Int) else 0) else 10) = 2) := by rw [Hid, if_pos rfl, if_pos hl]
      rw [H.out]
      go_enter Tryz.func122, Tryz.ntmps122
      go_wp2_with fail
      refine HV.out.mono ?_
      rintro e w1 ⟨rfl, hf⟩
      go_wp2
      go_ret
      exact ⟨rfl, hf⟩
    · have H : Hid ((if true = true then (if 4096 < s.size then (2 : Int) else 0) else 10) = 0) := by rw [Hid, if_pos rfl, if_neg hl]
      rw [H.out]
      go_enter Tryz.func122, Tryz.ntmps122
      go_wp2_with fail
      refine HV.out.mono ?_
      rintro e w1 ⟨rfl, hf⟩
      go_wp2
      go_ret
      exact ⟨rfl, hf⟩
theorem toList_beq (x y : ByteArray) : (x.toList == y.toList) = decide (x = y) := by
  rw [ByteArray.toList_eq, ByteArray.toList_eq]
  by_cases h : x = y
  · subst h; simp
  · rw [decide_eq_false h]
    cases e : x.data.toList == y.data.toList with
    | false => rfl
    | true => exact absurd (ByteArray.ext (Array.ext' (eq_of_beq e))) h
abbrev pval (nm : ByteArray) (k : Int) (f : Bool) (n : Int) (s : ByteArray) (la : Option Addr) (ln lc : Nat) (ka : Option Addr) (kn kc : Nat) : Value := .agg #[.string nm, .int .i64 k, .bool f, .int .i64 n, .string s, .slice la ln lc, .slice ka kn kc]
def pvalOf (p : ByteArray × M) : Value := match p with | (nm, .mk k f n s la lc l ka kc ks) => pval nm k f n s la l.length lc ka ks.length kc
theorem keq_any (p q : ByteArray × M) (w : World) : Calls Tryz.prog 67 #[pvalOf p, pvalOf q] w fun e w' => e = .returned (.bool (decide (p.1 = q.1))) ∧ Fresh w w' := by
  obtain ⟨nm, k, f, n, s, la, lc, l, ka, kc, ks⟩ := p
  obtain ⟨nm', k', f', n', s', la', lc', l', ka', kc', ks'⟩ := q
  dsimp only [pvalOf]
  generalize l.length = ln
  generalize ks.length = kn
  generalize l'.length = ln'
  generalize ks'.length = kn'
  rw [← toList_beq]
  go_enter Tryz.func67, Tryz.ntmps67
  go_wp2
  go_ret
  exact ⟨rfl, ((Fresh.refl w).alloc _).alloc _⟩
def namesEq (l m : List (ByteArray × M)) : Bool := decide (l.map (·.1) = m.map (·.1))
theorem namesEq_drop (l m : List (ByteArray × M)) (k : Nat) (hl : k < l.length) (hm : k < m.length) : namesEq (l.drop k) (m.drop k) = (decide (l[k].1 = m[k].1) && namesEq (l.drop (k + 1)) (m.drop (k + 1))) := by
  unfold namesEq
  rw [List.drop_eq_getElem_cons hl, List.drop_eq_getElem_cons hm, List.map_cons, List.map_cons]
  simp
theorem namesEq_parted {l m : List (ByteArray × M)} (h : l.length ≠ m.length) : namesEq l m = false := by
  refine decide_eq_false fun e => h ?_
  have := congrArg List.length e
  simpa using this
theorem keysEqual_any (ks ms : List (ByteArray × M)) (ka ma : Option Addr) (kc mc : Nat) (hk : RowAt w ka (pcells ks)) (hm : RowAt w ma (pcells ms)) (lk : ks.length ≤ 1000000) (_lm : ms.length ≤ 1000000) :
    Calls Tryz.prog 66 #[.slice ka ks.length kc, .slice ma ms.length mc, .func (.func 67) #[] #[]] w fun e w' => e = .returned (.bool (namesEq ks ms)) ∧ Fresh w w' := by
  by_cases hlen : ks.length = ms.length
  · have HK := Lib.hid hk
    have HM := Lib.hid hm
    have HL := Lib.hid hlen
    clear hk hm
    rw [← hlen]
    clear hlen
    go_enter Tryz.func66, Tryz.ntmps66
    go_wp2
    go_loopw [17] (fun i wr => ∃ k : Nat, k ≤ ks.length ∧ i = .int .i64 k ∧ Hid (namesEq ks ms = namesEq (ks.drop k) (ms.drop k)) ∧ Hid (Fresh w wr)) (fun i _ => ks.length - (intOf i).toNat)
    case atStart => exact ⟨0, Nat.zero_le _, rfl, rfl, Fresh.refl w⟩
    case round =>
      obtain ⟨k, hkk, rfl, HE, HW⟩ := hrel
      by_cases hlt : k < ks.length
      · have hltm : k < ms.length := by rw [← HL.out]; exact hlt
        obtain ⟨ga, ea⟩ : ∃ g, ka = some ⟨g, 0, none⟩ := by
          rcases HK.out with ⟨_, e⟩ | ⟨g, e, _⟩
          · have := congrArg List.length e
            rw [pcells_length] at this; simp at this; omega
          · exact ⟨g, e⟩
        obtain ⟨gb, eb⟩ : ∃ g, ma = some ⟨g, 0, none⟩ := by
          rcases HM.out with ⟨_, e⟩ | ⟨g, e, _⟩
          · have := congrArg List.length e
            rw [pcells_length] at this; simp at this; omega
          · exact ⟨g, e⟩
        subst ea eb
        obtain ⟨c, hc⟩ := prow_get (HK.out.move HW.out) k hlt
        obtain ⟨d, hd⟩ := prow_get (HM.out.move HW.out) k hltm
        have hgb : gb < wr.heap.size := World.block_lt_of_cell? wr _ d
        have HN := Lib.hid (namesEq_drop ks ms k hlt hltm)
        have HQ : Hid (∀ W, Calls Tryz.prog 67 #[pvalOf ks[k], pvalOf ms[k]] W fun e w' => e = .returned (.bool (decide (ks[k].1 = ms[k].1))) ∧ Fresh W w') := fun W => keq_any _ _ W
        generalize ks[k] = p at *
        generalize ms[k] = q at *
        obtain ⟨nm, y⟩ := p
        obtain ⟨nm', z⟩ := q
        obtain ⟨yk, yf, yn, ys, yla, ylc, yl, yka, ykc, yks⟩ := y
        obtain ⟨zk, zf, zn, zs, zla, zlc, zl, zka, zkc, zks⟩ := z
        obtain ⟨c0, c1, c2, c3, c4, c5⟩ := hc
        obtain ⟨d0, d1, d2, d3, d4, d5⟩ := hd
        dsimp only [pvalOf] at HQ c d HN
        generalize yl.length = yln at *
        generalize yks.length = ykn at *
        generalize zl.length = zln at *
        generalize zks.length = zkn at *
        generalize decide (nm = nm') = b at *
        cases b with
        | true =>
          go_wp2_with fail
          refine (HQ.out _).mono ?_
          rintro e w1 ⟨rfl, hf⟩
          have HW1 := Lib.hid (((HW.out.alloc _).alloc _).trans hf)
          clear hf
          go_wp2
          go_roundw
          case rel => exact ⟨k + 1, by omega, by go_num, by rw [Hid, HE.out, HN.out]; rfl, HW1.out⟩
          case measure => simp [intOf]; omega
        | false =>
          go_wp2_with fail
          refine (HQ.out _).mono ?_
          rintro e w1 ⟨rfl, hf⟩
          have HW1 := Lib.hid (((HW.out.alloc _).alloc _).trans hf)
          clear hf
          go_wp2
          go_ret
          exact ⟨ret_bool (by rw [HE.out, HN.out]; rfl), HW1.out⟩
      · obtain rfl : k = ks.length := by omega
        have H : Hid (namesEq ks ms = true) := by
          rw [Hid, HE.out, List.drop_length, HL.out, List.drop_length]; rfl
        clear HE
        go_wp2
        go_ret
        exact ⟨ret_bool H.out.symm, HW.out⟩
  · have H := Lib.hid (namesEq_parted hlen)
    have hb : ((ks.length : Int) == (ms.length : Int)) = false := beq_eq_false_iff_ne.2 (by omega)
    have hb2 : (ks.length == ms.length) = false := by simpa using hlen
    clear hlen
    rw [H.out]
    go_enter Tryz.func66, Tryz.ntmps66
    go_wp2
    go_ret
    exact ⟨rfl, Fresh.refl w⟩
theorem plainK_names (ks : List (ByteArray × M)) : (plainK ks).map (·.1) = ks.map (·.1) := by rw [plainK_eq]; simp
theorem alike_parted {k k' : Int} (h : k ≠ k') (f f' : Bool) (n n' : Int) (s s' : ByteArray) (l l' : List V) (ks ks' : List (ByteArray × V)) : (V.mk k f n s l ks).alike (.mk k' f' n' s' l' ks') = false :=
  decide_eq_false fun e => h e.1
theorem alike_flag (f f' : Bool) (n n' : Int) (s s' : ByteArray) (l l' : List V) (ks ks' : List (ByteArray × V)) : (V.mk 1 f n s l ks).alike (.mk 1 f' n' s' l' ks') = (f == f') := by
  simp [V.alike, V.kind, V.flag]
  cases f <;> cases f' <;> rfl
theorem alike_num (f f' : Bool) (n n' : Int) (s s' : ByteArray) (l l' : List V) (ks ks' : List (ByteArray × V)) : (V.mk 2 f n s l ks).alike (.mk 2 f' n' s' l' ks') = (n == n') := by
  simp [V.alike, V.kind, V.num]
  by_cases h : n = n' <;> simp [h]
theorem alike_text (f f' : Bool) (n n' : Int) (s s' : ByteArray) (l l' : List V) (ks ks' : List (ByteArray × V)) : (V.mk 3 f n s l ks).alike (.mk 3 f' n' s' l' ks') = (s.toList == s'.toList) := by
  rw [toList_beq]
  simp [V.alike, V.kind, V.text]
theorem alike_keys (f f' : Bool) (n n' : Int) (s s' : ByteArray) (l l' : List V) (ks ks' : List (ByteArray × V)) : (V.mk 5 f n s l ks).alike (.mk 5 f' n' s' l' ks') = decide (ks.map (·.1) = ks'.map (·.1)) := by
  simp [V.alike, V.kind, V.keys]
theorem alike_else {k : Int} (h1 : k ≠ 1) (h2 : k ≠ 2) (h3 : k ≠ 3) (h5 : k ≠ 5) (f f' : Bool) (n n' : Int) (s s' : ByteArray) (l l' : List V) (ks ks' : List (ByteArray × V)) : (V.mk k f n s l ks).alike (.mk k f' n' s' l' ks') = true :=
  decide_eq_true ⟨rfl, .inl h1, .inl h2, .inl h3, .inl h5⟩
theorem alike_any (m m' : M) (w : World) (hm : m.At w) (hm' : m'.At w) : Calls Tryz.prog 38 #[m.val, m'.val] w fun e w' => e = .returned (.bool (m.plain.alike m'.plain)) ∧ Fresh w w' := by
  obtain ⟨k, f, n, s, la, lc, l, ka, kc, ks⟩ := m
  obtain ⟨k', f', n', s', la', lc', l', ka', kc', ks'⟩ := m'
  obtain ⟨_, _, hk, _, lk, _⟩ := hm.parts
  obtain ⟨_, _, hk', _, lk', _⟩ := hm'.parts
  dsimp only [M.val, M.plain]
  by_cases e : k = k'
  · subst e
    by_cases h5 : k = 5
    · subst h5
      have H : Hid ((V.mk 5 f n s (plainL l) (plainK ks)).alike (V.mk 5 f' n' s' (plainL l') (plainK ks')) = namesEq ks ks') := by
        rw [Hid, alike_keys, plainK_names, plainK_names]; rfl
      rw [H.out]
      have HQ : Hid (∀ W, Fresh w W → Calls Tryz.prog 66 #[.slice ka ks.length kc, .slice ka' ks'.length kc', .func (.func 67) #[] #[]] W fun e w' => e = .returned (.bool (namesEq ks ks')) ∧ Fresh W w') := fun W hf => keysEqual_any ks ks' ka ka' kc kc' (hk.move hf) (hk'.move hf) lk lk'
      clear hk hk' hm hm' lk lk' H
      generalize namesEq ks ks' = b at *
      generalize l.length = ln at *
      generalize ks.length = kn at *
      generalize l'.length = ln' at *
      generalize ks'.length = kn' at *
      go_enter Tryz.func38, Tryz.ntmps38
      go_wp2_with fail
      refine (HQ.out _ (((Fresh.refl w).alloc _).alloc _)).mono ?_
      rintro e w1 ⟨rfl, hf⟩
      have HW1 := Lib.hid ((((Fresh.refl w).alloc _).alloc _).trans hf)
      clear hf
      go_wp2
      go_ret
      exact ⟨rfl, HW1.out⟩
    · clear hk hk' hm hm' lk lk'
      have b5 : (k == 5) = false := by simpa using h5
      by_cases h1 : k = 1
      · subst h1
        rw [alike_flag]
        generalize l.length = ln at *
        generalize ks.length = kn at *
        generalize l'.length = ln' at *
        generalize ks'.length = kn' at *
        clear h5 b5
        go_enter Tryz.func38, Tryz.ntmps38
        go_wp2
        go_ret
        exact ⟨rfl, ((Fresh.refl w).alloc _).alloc _⟩
      have b1 : (k == 1) = false := by simpa using h1
      by_cases h2 : k = 2
      · subst h2
        rw [alike_num]
        generalize l.length = ln at *
        generalize ks.length = kn at *
        generalize l'.length = ln' at *
        generalize ks'.length = kn' at *
        clear h5 b5 h1 b1
        go_enter Tryz.func38, Tryz.ntmps38
        go_wp2
        go_ret
        exact ⟨rfl, ((Fresh.refl w).alloc _).alloc _⟩
      have b2 : (k == 2) = false := by simpa using h2
      by_cases h3 : k = 3
      · subst h3
        rw [alike_text]
        generalize l.length = ln at *
        generalize ks.length = kn at *
        generalize l'.length = ln' at *
        generalize ks'.length = kn' at *
        clear h5 b5 h1 b1 h2 b2
        go_enter Tryz.func38, Tryz.ntmps38
        go_wp2
        go_ret
        exact ⟨rfl, ((Fresh.refl w).alloc _).alloc _⟩
      have b3 : (k == 3) = false := by simpa using h3
      rw [alike_else h1 h2 h3 h5]
      generalize l.length = ln at *
      generalize ks.length = kn at *
      generalize l'.length = ln' at *
      generalize ks'.length = kn' at *
      clear h1 h2 h3 h5
      go_enter Tryz.func38, Tryz.ntmps38
      go_wp2
      go_ret
      exact ⟨rfl, ((Fresh.refl w).alloc _).alloc _⟩
  · rw [alike_parted e]
    have hb : (k == k') = false := by simpa using e
    clear e hk hk' hm hm' lk lk'
    generalize l.length = ln at *
    generalize ks.length = kn at *
    generalize l'.length = ln' at *
    generalize ks'.length = kn' at *
    go_enter Tryz.func38, Tryz.ntmps38
    go_wp2
    go_ret
    exact ⟨rfl, ((Fresh.refl w).alloc _).alloc _⟩
theorem row_some {w : World} {a : Option Addr} {l : List M} (h : RowAt w a (mcells l)) (k : Nat) (hk : k < l.length) : ∃ g, a = some ⟨g, 0, none⟩ := by
  rcases h with ⟨_, e⟩ | ⟨g, e, _⟩
  · have := congrArg List.length e
    rw [mcells_length] at this; simp at this; omega
  · exact ⟨g, e⟩
theorem allAlike_any (l m : List M) (la ma : Option Addr) (lc mc : Nat) (w : World) (hl : RowAt w la (mcells l)) (hm : RowAt w ma (mcells m)) (ll : l.length ≤ 1000000) (al : ∀ x ∈ l, x.At w) (am : ∀ x ∈ m, x.At w) :
    Calls Tryz.prog 40 #[.slice la l.length lc, .slice ma m.length mc, .func (.func 38) #[] #[]] w fun e w' => e = .returned (.bool (alikeL (l.map M.plain) (m.map M.plain))) ∧ Fresh w w' := by
  by_cases hlen : l.length = m.length
  · have HK := Lib.hid hl
    have HM := Lib.hid hm
    have HL := Lib.hid hlen
    have HA := Lib.hid al
    have HB := Lib.hid am
    clear hl hm al am
    rw [← hlen]
    clear hlen
    go_enter Tryz.func40, Tryz.ntmps40
    go_wp2
    go_loopw [17] (fun i wr => ∃ k : Nat, k ≤ l.length ∧ i = .int .i64 k ∧ Hid (alikeL (l.map M.plain) (m.map M.plain) = alikeL ((l.map M.plain).drop k) ((m.map M.plain).drop k)) ∧ Hid (Fresh w wr)) (fun i _ => l.length - (intOf i).toNat)
    case atStart => exact ⟨0, Nat.zero_le _, rfl, rfl, Fresh.refl w⟩
    case round =>
      obtain ⟨k, hkk, rfl, HE, HW⟩ := hrel
      by_cases hlt : k < l.length
      · have hltm : k < m.length := by rw [← HL.out]; exact hlt
        obtain ⟨ga, ea⟩ := row_some HK.out k hlt
        obtain ⟨gb, eb⟩ := row_some HM.out k hltm
        subst ea eb
        have hc := mrow_get (HK.out.move HW.out) k hlt
        have hd := mrow_get (HM.out.move HW.out) k hltm
        have HN := Lib.hid (alikeL_drop (l.map M.plain) (m.map M.plain) k (by simpa using hlt) (by simpa using hltm))
        rw [List.getElem_map, List.getElem_map] at HN
        have HQ : Hid (∀ W, Fresh wr W → Calls Tryz.prog 38 #[l[k].val, m[k].val] W fun e w' => e = .returned (.bool (l[k].plain.alike m[k].plain)) ∧ Fresh W w') := fun W hf => alike_any _ _ W ((HA.out _ (List.getElem_mem _)).move (HW.out.trans hf)) ((HB.out _ (List.getElem_mem _)).move (HW.out.trans hf))
        generalize l[k] = y at *
        generalize m[k] = z at *
        generalize y.plain.alike z.plain = b at *
        obtain ⟨yk, yf, yn, ys, yla, ylc, yl, yka, ykc, yks⟩ := y
        obtain ⟨zk, zf, zn, zs, zla, zlc, zl, zka, zkc, zks⟩ := z
        obtain ⟨c0, c1, c2, c3, c4, c5⟩ := hc
        obtain ⟨d0, d1, d2, d3, d4, d5⟩ := hd
        have hgb : gb < wr.heap.size := World.block_lt_of_cell? wr _ d0
        dsimp only [M.val] at HQ
        generalize yl.length = yln at *
        generalize yks.length = ykn at *
        generalize zl.length = zln at *
        generalize zks.length = zkn at *
        cases b with
        | true =>
          go_wp2_with fail
          refine (HQ.out _ (((Fresh.refl wr).alloc _).alloc _)).mono ?_
          rintro e w1 ⟨rfl, hf⟩
          have HW1 := Lib.hid (((HW.out.alloc _).alloc _).trans hf)
          clear hf
          go_wp2
          go_roundw
          case rel => exact ⟨k + 1, by omega, by go_num, by rw [Hid, HE.out, HN.out]; rfl, HW1.out⟩
          case measure => simp [intOf]; omega
        | false =>
          go_wp2_with fail
          refine (HQ.out _ (((Fresh.refl wr).alloc _).alloc _)).mono ?_
          rintro e w1 ⟨rfl, hf⟩
          have HW1 := Lib.hid (((HW.out.alloc _).alloc _).trans hf)
          clear hf
          go_wp2
          go_ret
          exact ⟨ret_bool (by rw [HE.out, HN.out]; rfl), HW1.out⟩
      · obtain rfl : k = l.length := by omega
        have H : Hid (alikeL (l.map M.plain) (m.map M.plain) = true) := by
          rw [Hid, HE.out, List.drop_eq_nil_of_le (by simp), List.drop_eq_nil_of_le (by simp [HL.out])]; rfl
        clear HE
        go_wp2
        go_ret
        exact ⟨ret_bool H.out.symm, HW.out⟩
  · have H : Hid (alikeL (l.map M.plain) (m.map M.plain) = false) := alikeL_parted (by simpa using hlen)
    have hb : ((l.length : Int) == (m.length : Int)) = false := beq_eq_false_iff_ne.2 (by omega)
    have hb2 : (l.length == m.length) = false := by simpa using hlen
    clear hlen
    rw [H.out]
    go_enter Tryz.func40, Tryz.ntmps40
    go_wp2
    go_ret
    exact ⟨rfl, Fresh.refl w⟩
theorem depthL_take (l : List V) (k : Nat) (hk : k < l.length) : depthL (l.take (k + 1)) = max (depthL (l.take k)) l[k].depth := by
  rw [List.take_succ_eq_append_getElem hk, depthL_append]
  simp [depthL]
theorem depthL_take_le (l : List V) (k : Nat) : depthL (l.take k) ≤ depthL l := by
  have := depthL_append (l.take k) (l.drop k)
  rw [List.take_append_drop] at this
  omega
theorem prow_some {w : World} {a : Option Addr} {l : List (ByteArray × M)} (h : RowAt w a (pcells l)) (k : Nat) (hk : k < l.length) : ∃ g, a = some ⟨g, 0, none⟩ := by
  rcases h with ⟨_, e⟩ | ⟨g, e, _⟩
  · have := congrArg List.length e
    rw [pcells_length] at this; simp at this; omega
  · exact ⟨g, e⟩
theorem box6' {w : World} {b : Nat} {c0 c1 c2 c3 c4 c5 : Value} {T : TypeId} {z : Nat × Nat} (h : w.heap[b]? = some (.cells #[c0, c1, c2, c3, c4, c5] T z)) :
    w.cell? ⟨b, 0, none⟩ = some c0 ∧ w.cell? ⟨b, 1, none⟩ = some c1 ∧ w.cell? ⟨b, 2, none⟩ = some c2 ∧ w.cell? ⟨b, 3, none⟩ = some c3 ∧ w.cell? ⟨b, 4, none⟩ = some c4 ∧ w.cell? ⟨b, 5, none⟩ = some c5 :=
  ⟨cell_of_at h rfl, cell_of_at h rfl, cell_of_at h rfl, cell_of_at h rfl, cell_of_at h rfl, cell_of_at h rfl⟩
theorem rdepth_no (m : M) (w : World) (hh : m.plain.holds = false) : Calls Tryz.prog 29 #[m.val] w fun e w' => e = .returned (.int .i64 m.plain.depth) ∧ Fresh w w' := by
  rw [m.plain.depth_not hh]
  obtain ⟨k, f, n, s, la, lc, l, ka, kc, ks⟩ := m
  have hk : ¬ (k = 4 ∨ k = 5) := of_decide_eq_false hh
  have e4 : (k == 4) = false := by simp; omega
  have e5 : (k == 5) = false := by simp; omega
  clear hh hk
  dsimp only [M.val] at *
  generalize l.length = ln at *
  generalize ks.length = kn at *
  go_enter Tryz.func29, Tryz.ntmps29
  go_wp2
  go_ret
  exact ⟨rfl, (Fresh.refl w).alloc _⟩
theorem rdepth_list (f : Bool) (n : Int) (s : ByteArray) (la : Option Addr) (lc : Nat) (l : List M) (ka : Option Addr) (kc : Nat) (ks : List (ByteArray × M)) (w : World) (hl : RowAt w la (mcells l)) (ll : l.length ≤ 1000000) (hb : depthL (l.map M.plain) ≤ 1000000)
    (ih : ∀ x ∈ l, ∀ W, Fresh w W → Calls Tryz.prog 29 #[x.val] W fun e w' => e = .returned (.int .i64 x.plain.depth) ∧ Fresh W w') :
    Calls Tryz.prog 29 #[(M.mk 4 f n s la lc l ka kc ks).val] w fun e w' => e = .returned (.int .i64 ((depthL (l.map M.plain) + 1 : Nat) : Int)) ∧ Fresh w w' := by
  have HIH := Lib.hid ih
  have HR := Lib.hid hl
  have HTL : Hid (∀ j, depthL ((l.map M.plain).take j) ≤ depthL (l.map M.plain)) := fun j => depthL_take_le _ j
  clear ih hl
  dsimp only [M.val]
  generalize ks.length = kn at *
  go_enter Tryz.func29, Tryz.ntmps29
  go_wp2
  go_loopw [3, 4] (fun a3 a4 wr => ∃ j d : Nat, j ≤ l.length ∧ a3 = .int .i64 d ∧ a4 = .int .i64 j ∧ Hid (d = depthL ((l.map M.plain).take j)) ∧ Hid (Fresh (w.alloc (.cells #[.int .i64 4, .bool f, .int .i64 n, .string s, .slice la l.length lc, .slice ka kn kc] 36)) wr)) (fun _ a4 _ => l.length - (intOf a4).toNat)
  case atStart => exact ⟨0, 0, Nat.zero_le _, rfl, rfl, rfl, Fresh.refl _⟩
  case round =>
    obtain ⟨j, d, hj, rfl, rfl, HD, HW⟩ := hrel
    obtain ⟨b0, b1, b2, b3, b4, b5⟩ := box6' (HW.out.at (at_new w _))
    have hW : Fresh w wr := ((Fresh.refl w).alloc _).trans HW.out
    have HW2 := Lib.hid hW
    clear hW
    have hdb : d ≤ 1000000 := by have h1 : d = _ := HD.out; have := HTL.out j; omega
    by_cases hlt : j < l.length
    · obtain ⟨g, eg⟩ := row_some HR.out j hlt
      subst eg
      have hy := mrow_get (HR.out.move HW2.out) j hlt
      have hdt := depthL_take (l.map M.plain) j (by simpa using hlt)
      rw [List.getElem_map, ← (show d = _ from HD.out)] at hdt
      have HDT := Lib.hid hdt
      have hdy : l[j].plain.depth ≤ 1000000 := by have := HTL.out (j + 1); omega
      have HQ : Hid (Calls Tryz.prog 29 #[l[j].val] wr fun e w' => e = .returned (.int .i64 l[j].plain.depth) ∧ Fresh wr w') := HIH.out _ (List.getElem_mem _) wr HW2.out
      clear hdt
      generalize l[j] = y at *
      generalize y.plain.depth = dy at *
      obtain ⟨yk, yf, yn, ys, yla, ylc, yl, yka, ykc, yks⟩ := y
      obtain ⟨d0, d1, d2, d3, d4, d5⟩ := hy
      dsimp only [M.val] at HQ
      generalize yl.length = yln at *
      generalize yks.length = ykn at *
      by_cases hcmp : d < dy
      · have HM : Hid (dy = depthL ((l.map M.plain).take (j + 1))) := by rw [Hid, HDT.out]; omega
        go_wp2_with fail
        refine HQ.out.mono ?_
        rintro e w1 ⟨rfl, hf⟩
        have HF := Lib.hid (HW.out.trans hf)
        clear hf b0 b1 b2 b3 b4 b5 d0 d1 d2 d3 d4 d5
        go_wp2
        go_roundw
        case rel => exact ⟨j + 1, dy, by omega, rfl, by go_num, HM.out, HF.out⟩
        case measure => simp [intOf]; omega
      · have HM : Hid (d = depthL ((l.map M.plain).take (j + 1))) := by rw [Hid, HDT.out]; omega
        go_wp2_with fail
        refine HQ.out.mono ?_
        rintro e w1 ⟨rfl, hf⟩
        have HF := Lib.hid (HW.out.trans hf)
        clear hf b0 b1 b2 b3 b4 b5 d0 d1 d2 d3 d4 d5
        go_wp2
        go_roundw
        case rel => exact ⟨j + 1, d, by omega, rfl, by go_num, HM.out, HF.out⟩
        case measure => simp [intOf]; omega
    · obtain rfl : j = l.length := by omega
      have HE : Hid (depthL (l.map M.plain) = d) := by rw [Hid, HD.out, List.take_of_length_le (by simp)]
      go_wp2
      go_ret
      exact ⟨ret_int (by rw [HE.out]; rfl), HW2.out⟩
theorem rdepth_keys (f : Bool) (n : Int) (s : ByteArray) (la : Option Addr) (lc : Nat) (l : List M) (ka : Option Addr) (kc : Nat) (ks : List (ByteArray × M)) (w : World) (hl : RowAt w ka (pcells ks)) (ll : ks.length ≤ 1000000) (hb : depthL (ks.map fun p => p.2.plain) ≤ 1000000)
    (ih : ∀ x ∈ ks, ∀ W, Fresh w W → Calls Tryz.prog 29 #[x.2.val] W fun e w' => e = .returned (.int .i64 x.2.plain.depth) ∧ Fresh W w') :
    Calls Tryz.prog 29 #[(M.mk 5 f n s la lc l ka kc ks).val] w fun e w' => e = .returned (.int .i64 ((depthL (ks.map fun p => p.2.plain) + 1 : Nat) : Int)) ∧ Fresh w w' := by
  have HIH := Lib.hid ih
  have HR := Lib.hid hl
  have HTL : Hid (∀ j, depthL ((ks.map fun p => p.2.plain).take j) ≤ depthL (ks.map fun p => p.2.plain)) := fun j => depthL_take_le _ j
  clear ih hl
  dsimp only [M.val]
  generalize l.length = ln at *
  go_enter Tryz.func29, Tryz.ntmps29
  go_wp2
  go_loopw [3, 6] (fun a3 a4 wr => ∃ j d : Nat, j ≤ ks.length ∧ a3 = .int .i64 d ∧ a4 = .int .i64 j ∧ Hid (d = depthL ((ks.map fun p => p.2.plain).take j)) ∧ Hid (Fresh (w.alloc (.cells #[.int .i64 5, .bool f, .int .i64 n, .string s, .slice la ln lc, .slice ka ks.length kc] 36)) wr)) (fun _ a4 _ => ks.length - (intOf a4).toNat)
  case atStart => exact ⟨0, 0, Nat.zero_le _, rfl, rfl, rfl, Fresh.refl _⟩
  case round =>
    obtain ⟨j, d, hj, rfl, rfl, HD, HW⟩ := hrel
    obtain ⟨b0, b1, b2, b3, b4, b5⟩ := box6' (HW.out.at (at_new w _))
    have hW : Fresh w wr := ((Fresh.refl w).alloc _).trans HW.out
    have HW2 := Lib.hid hW
    clear hW
    have hdb : d ≤ 1000000 := by have h1 : d = _ := HD.out; have := HTL.out j; omega
    by_cases hlt : j < ks.length
    · obtain ⟨g, eg⟩ := prow_some HR.out j hlt
      subst eg
      obtain ⟨hnm, hy⟩ := prow_get (HR.out.move HW2.out) j hlt
      have hdt := depthL_take (ks.map fun p => p.2.plain) j (by simpa using hlt)
      rw [List.getElem_map, ← (show d = _ from HD.out)] at hdt
      have HDT := Lib.hid hdt
      have hdy : ks[j].2.plain.depth ≤ 1000000 := by have := HTL.out (j + 1); omega
      have HQ : Hid (Calls Tryz.prog 29 #[ks[j].2.val] wr fun e w' => e = .returned (.int .i64 ks[j].2.plain.depth) ∧ Fresh wr w') := HIH.out _ (List.getElem_mem _) wr HW2.out
      clear hdt
      generalize ks[j].2 = y at *
      generalize y.plain.depth = dy at *
      obtain ⟨yk, yf, yn, ys, yla, ylc, yl, yka, ykc, yks⟩ := y
      obtain ⟨d0, d1, d2, d3, d4, d5⟩ := hy
      dsimp only [M.val] at HQ
      generalize yl.length = yln at *
      generalize yks.length = ykn at *
      by_cases hcmp : d < dy
      · have HM : Hid (dy = depthL ((ks.map fun p => p.2.plain).take (j + 1))) := by rw [Hid, HDT.out]; omega
        go_wp2_with fail
        refine HQ.out.mono ?_
        rintro e w1 ⟨rfl, hf⟩
        have HF := Lib.hid (HW.out.trans hf)
        clear hf b0 b1 b2 b3 b4 b5 d0 d1 d2 d3 d4 d5
        go_wp2
        go_roundw
        case rel => exact ⟨j + 1, dy, by omega, rfl, by go_num, HM.out, HF.out⟩
        case measure => simp [intOf]; omega
      · have HM : Hid (d = depthL ((ks.map fun p => p.2.plain).take (j + 1))) := by rw [Hid, HDT.out]; omega
        go_wp2_with fail
        refine HQ.out.mono ?_
        rintro e w1 ⟨rfl, hf⟩
        have HF := Lib.hid (HW.out.trans hf)
        clear hf b0 b1 b2 b3 b4 b5 d0 d1 d2 d3 d4 d5
        go_wp2
        go_roundw
        case rel => exact ⟨j + 1, d, by omega, rfl, by go_num, HM.out, HF.out⟩
        case measure => simp [intOf]; omega
    · obtain rfl : j = ks.length := by omega
      have HE : Hid (depthL (ks.map fun p => p.2.plain) = d) := by rw [Hid, HD.out, List.take_of_length_le (by simp)]
      go_wp2
      go_ret
      exact ⟨ret_int (by rw [HE.out]; rfl), HW2.out⟩
theorem rdepth_all (N : Nat) : ∀ (m : M) (w : World), m.plain.size ≤ N → m.plain.size ≤ 1000000 → m.At w → Calls Tryz.prog 29 #[m.val] w fun e w' => e = .returned (.int .i64 m.plain.depth) ∧ Fresh w w' := by
  induction N with
  | zero => intro m w hN; have := m.plain.size_pos; omega
  | succ N ih =>
    intro m w hN hs hat
    cases hh : m.plain.holds with
    | false => exact rdepth_no m w hh
    | true =>
      have hd := m.plain.depth_size
      have hsz := size_inside m.plain
      rw [m.plain.depth_holds hh] at hd ⊢
      rw [plain_inside] at hd hsz ⊢
      have hin : ∀ x ∈ m.inside, ∀ W, Fresh w W → Calls Tryz.prog 29 #[x.val] W fun e w' => e = .returned (.int .i64 x.plain.depth) ∧ Fresh W w' := fun x hx W hf => by
        have := size_mem (List.mem_map_of_mem (f := M.plain) hx)
        exact ih x W (by omega) (by omega) ((hat.inside x hx).move hf)
      have hk : m.kind = 4 ∨ m.kind = 5 := by
        have := of_decide_eq_true hh
        rwa [plain_kind] at this
      obtain ⟨k, f, n, s, la, lc, l, ka, kc, ks⟩ := m
      obtain ⟨_, hl, hkk, ll, lk, _⟩ := hat.parts
      rcases hk with rfl | rfl
      · exact rdepth_list f n s la lc l ka kc ks w hl ll (by have : (M.mk 4 f n s la lc l ka kc ks).inside = l := rfl; rw [this] at hd; omega) hin
      · have hi : (M.mk 5 f n s la lc l ka kc ks).inside = ks.map (·.2) := rfl
        rw [hi, List.map_map] at hd ⊢
        rw [hi] at hin
        exact rdepth_keys f n s la lc l ka kc ks w hkk lk (by have : depthL (ks.map fun p => p.2.plain) + 1 ≤ _ := hd; omega) (fun x hx => hin x.2 (List.mem_map_of_mem (f := (·.2)) hx))
theorem rdepth_any (m : M) (w : World) (h : m.At w) (hs : m.plain.size ≤ 1000000) : Calls Tryz.prog 29 #[m.val] w fun e w' => e = .returned (.int .i64 m.plain.depth) ∧ Fresh w w' :=
  rdepth_all m.plain.size m w (Nat.le_refl _) hs h
def key (s : ByteArray) : Lit := .string s.data.toList
theorem key_inj {a b : ByteArray} (h : key a = key b) : a = b := by
  unfold key at h
  injection h with h
  exact ByteArray.ext (Array.ext' h)
theorem key_of (s : ByteArray) (hs : s.size ≤ 1000000) : keyOf Tryz.prog 9 (.string s) = some (key s) := Go.WideMaps.keyOf_string_mk Tryz.underlying9 (by unfold maxLen; omega)
theorem law9 : Maps.Keyed Tryz.prog 9 := Maps.string_keyed Tryz.underlying9
theorem zero4 (w : World) : (zeroValue 4).run Tryz.prog w = .ok (.bool false) w := by kernel_rfl
def boolR : Value → Option (DataW Unit × List MemPlace)
  | .bool x => some (.lit (.bool x), [])
  | _ => none
theorem boolR_inv {v : Value} {y : DataW Unit × List MemPlace} (h : boolR v = some y) : ∃ x, v = .bool x ∧ y = (.lit (.bool x), []) := by
  unfold boolR at h
  split at h
  · exact ⟨_, rfl, by cases h; rfl⟩
  · cases h
def inB (s : ByteArray) (L : List ByteArray) : Bool := L.any fun t => decide (t = s)
theorem inB_iff (s : ByteArray) (L : List ByteArray) : inB s L = true ↔ s ∈ L := by
  unfold inB
  rw [List.any_eq_true]
  constructor
  · rintro ⟨t, ht, e⟩
    have := of_decide_eq_true e
    subst this; exact ht
  · exact fun h => ⟨s, h, decide_eq_true rfl⟩
theorem inB_yes {s : ByteArray} {L : List ByteArray} (h : s ∈ L) : inB s L = true := (inB_iff s L).2 h
theorem inB_no {s : ByteArray} {L : List ByteArray} (h : s ∉ L) : inB s L = false := by
  cases e : inB s L with
  | false => rfl
  | true => exact absurd ((inB_iff s L).1 e) h
def seenIs (w : World) (b n : Nat) (L : List ByteArray) : Prop := ∃ D : DataW Unit, w.ownsMap Tryz.prog 9 boolR b n D ∧ ∀ s : ByteArray, D.atKey (key s) (.lit (.bool false)) = .lit (.bool (inB s L))
theorem seen_made (w : World) : seenIs (w.alloc (.map #[] 0)) w.heap.size 0 [] := ⟨_, World.ownsMap_made w _ _ _, fun _ => rfl⟩
theorem seenIs.look {w : World} {b n : Nat} {L : List ByteArray} (h : seenIs w b n L) (s : ByteArray) (hs : s.size ≤ 1000000) : (Instr.lookup 165 (.map (some b)) (.string s) false).run Tryz.prog w = .ok (.bool (inB s L)) w := by
  obtain ⟨D, h1, h2⟩ := h
  obtain ⟨v, ps, hr, hv⟩ := h1.lookup law9 Tryz.underlying165 (zero4 w) (zd := .lit (.bool false)) (zp := []) rfl (key_of s hs)
  obtain ⟨x, rfl, e⟩ := boolR_inv hv
  rw [h2 s] at e
  simp only [Prod.mk.injEq, DataW.lit.injEq, Lit.bool.injEq] at e
  rw [e.1]; exact hr
theorem seenIs.move {w w' : World} {b n : Nat} {L : List ByteArray} (h : seenIs w b n L) (hb : w'.heap[b]? = w.heap[b]?) : seenIs w' b n L := by
  obtain ⟨D, ⟨es, clock, h1, r⟩, h2⟩ := h
  exact ⟨D, ⟨es, clock, hb.trans h1, r⟩, h2⟩
theorem seenIs.lt {w : World} {b n : Nat} {L : List ByteArray} (h : seenIs w b n L) : b < w.heap.size := by
  obtain ⟨D, h1, _⟩ := h; exact h1.lt
theorem seen_put {D : DataW Unit} {L : List ByteArray} (hD : Maps.IsMap D) (h : ∀ s : ByteArray, D.atKey (key s) (.lit (.bool false)) = .lit (.bool (inB s L))) (nm : ByteArray) (hn : nm.size ≤ 1000000) (s : ByteArray) :
    (D.put (key nm) (.lit (.bool true))).atKey (key s) (.lit (.bool false)) = .lit (.bool (inB s (L ++ [nm]))) := by
  have hk : WideAt.IsKeyLit (key nm) := law9.key (v := .string nm) (l := key nm) (key_of nm hn)
  by_cases hs : s = nm
  · subst hs
    rw [Maps.atKey_put_same hD hk, inB_yes (by simp)]
  · rw [Maps.atKey_put_other (fun e => hs (key_inj e)), h s]
    have e : inB s (L ++ [nm]) = inB s L := by simp [inB, Ne.symm hs]
    rw [e]
theorem textsW_at (ks : List (ByteArray × M)) (j : Nat) (h : j < ks.length) : textsW ((ks.map (·.1)).drop j) = if textW ks[j].1 ≠ 0 then textW ks[j].1 else textsW ((ks.map (·.1)).drop (j + 1)) := by
  rw [textsW_drop _ j (by simpa using h), List.getElem_map]
theorem twice_at {ks : List (ByteArray × M)} {j : Nat} (h : j < ks.length) (hm : ks[j].1 ∈ (ks.map (·.1)).take j) : ¬ (ks.map (·.1)).Nodup := by
  intro hn
  rw [← List.take_append_drop j (ks.map (·.1)), List.nodup_append] at hn
  have hd : ks[j].1 ∈ (ks.map (·.1)).drop j := by
    rw [List.drop_eq_getElem_cons (by simpa using h), List.getElem_map]; simp
  exact hn.2.2 _ hm _ hd rfl
theorem once_at {ks : List (ByteArray × M)} {j : Nat} (h : j < ks.length) (hn : ((ks.map (·.1)).take j).Nodup) (hm : ks[j].1 ∉ (ks.map (·.1)).take j) : ((ks.map (·.1)).take (j + 1)).Nodup := by
  rw [List.take_succ_eq_append_getElem (by simpa using h), List.getElem_map, List.nodup_append]
  exact ⟨hn, by simp, fun a ha b hb => by rw [List.mem_singleton] at hb; subst hb; rintro rfl; exact hm ha⟩
theorem keysFault_any (ks : List (ByteArray × M)) (ka : Option Addr) (kc : Nat) (w : World) (hT : Tabs w) (hk : RowAt w ka (pcells ks)) (lk : ks.length ≤ 1000000) (hn : ∀ p ∈ ks, p.1.size ≤ 1000000) :
    Calls Tryz.prog 123 #[.slice ka ks.length kc] w fun e w' => e = .returned (.int .i64 (keysW (ks.map (·.1)))) ∧ Fresh w w' := by
  have HT := Lib.hid hT
  have HR := Lib.hid hk
  have HN := Lib.hid hn
  have hmm := @run_makeMap Tryz.prog
  clear hT hk hn
  go_enter Tryz.func123, Tryz.ntmps123
  go_wp2
  go_loopw [11] (fun a wq => ∃ j : Nat, j ≤ ks.length ∧ a = .int .i64 j ∧ Hid (textsW (ks.map (·.1)) = textsW ((ks.map (·.1)).drop j)) ∧ Hid (Fresh w wq)) (fun a _ => ks.length - (intOf a).toNat)
  case atStart => exact ⟨0, Nat.zero_le _, rfl, rfl, Fresh.refl w⟩
  case round =>
    obtain ⟨j, hj, rfl, HE, HW⟩ := hrel
    by_cases hlt : j < ks.length
    · obtain ⟨g, eg⟩ := prow_some HR.out j hlt
      subst eg
      obtain ⟨c, hy⟩ := prow_get (HR.out.move HW.out) j hlt
      have HX := Lib.hid (textsW_at ks j hlt)
      have hb := textW_bd ks[j].1
      have HQ : Hid (∀ W, Fresh wr W → Calls Tryz.prog 122 #[.string ks[j].1] W fun e w' => e = .returned (.int .i64 (textW ks[j].1)) ∧ Fresh W w') := fun W hf => textFault_any _ W (HN.out _ (List.getElem_mem _)) (HT.out.move (HW.out.trans hf))
      generalize ks[j] = p at *
      obtain ⟨nm, y⟩ := p
      dsimp only at c HQ HX hb
      generalize textW nm = x at *
      obtain ⟨yk, yf, yn, ys, yla, ylc, yl, yka, ykc, yks⟩ := y
      obtain ⟨d0, d1, d2, d3, d4, d5⟩ := hy
      generalize yl.length = yln at *
      generalize yks.length = ykn at *
      by_cases hx : x = 0
      · subst hx
        have HX2 : Hid (textsW ((ks.map (·.1)).drop j) = textsW ((ks.map (·.1)).drop (j + 1))) := by rw [Hid, HX.out, if_neg (by simp)]
        go_wp2_with fail
        refine (HQ.out _ ((Fresh.refl wr).alloc _)).mono ?_
        rintro e w1 ⟨rfl, hf⟩
        have HF := Lib.hid ((HW.out.alloc _).trans hf)
        clear hf
        go_wp2
        go_roundw
        case rel => exact ⟨j + 1, by omega, by go_num, by rw [Hid, HE.out, HX2.out], HF.out⟩
        case measure => simp [intOf]; omega
      · have HX2 : Hid (keysW (ks.map (·.1)) = x) := by
          have h1 : textsW (ks.map (·.1)) = x := by rw [HE.out, HX.out, if_pos hx]
          rw [Hid, keysW, h1, if_pos hx]
        have hxb : (x == 0) = false := by simpa using hx
        go_wp2_with fail
        refine (HQ.out _ ((Fresh.refl wr).alloc _)).mono ?_
        rintro e w1 ⟨rfl, hf⟩
        have HF := Lib.hid ((HW.out.alloc _).trans hf)
        clear hf
        go_wp2
        go_ret
        exact ⟨ret_int (by rw [HX2.out]), HF.out⟩
    · obtain rfl : j = ks.length := by omega
      have HK : Hid (keysW (ks.map (·.1)) = if (ks.map (·.1)).Nodup then 0 else 8) := by
        have h1 : textsW (ks.map (·.1)) = 0 := by
          rw [HE.out, List.drop_eq_nil_of_le (by simp)]; rfl
        rw [Hid, keysW, h1, if_neg (by simp)]
      obtain ⟨wo, rfl⟩ : ∃ wo : World, wo = wr := ⟨_, rfl⟩
      clear HE
      go_wp2
      go_loopw [25] (fun a wq => ∃ i : Nat, i ≤ ks.length ∧ a = .int .i64 i ∧ Hid (seenIs wq wo.heap.size i ((ks.map (·.1)).take i)) ∧ Hid (((ks.map (·.1)).take i).Nodup) ∧ Hid (Fresh w wq)) (fun a _ => ks.length - (intOf a).toNat)
      case atStart => exact ⟨0, Nat.zero_le _, rfl, seen_made wo, by simp [Hid], HW.out.alloc _⟩
      case round =>
        obtain ⟨i, hi, rfl, HS, HND, HW3⟩ := hrel
        by_cases hlt2 : i < ks.length
        · obtain ⟨g, eg⟩ := prow_some HR.out i hlt2
          subst eg
          obtain ⟨c, hy⟩ := prow_get (HR.out.move HW3.out) i hlt2
          have H1 := Lib.hid (@twice_at ks i hlt2)
          have H2 := Lib.hid (@once_at ks i hlt2 HND.out)
          have HTK : Hid ((ks.map (·.1)).take (i + 1) = (ks.map (·.1)).take i ++ [ks[i].1]) := by
            rw [Hid, List.take_succ_eq_append_getElem (by simpa using hlt2), List.getElem_map]
          have hsz : ks[i].1.size ≤ 1000000 := HN.out _ (List.getElem_mem _)
          have hbm := HS.out.lt
          generalize ks[i] = p at *
          obtain ⟨nm, y⟩ := p
          dsimp only at c hsz H1 H2 HTK
          obtain ⟨yk, yf, yn, ys, yla, ylc, yl, yka, ykc, yks⟩ := y
          obtain ⟨d0, d1, d2, d3, d4, d5⟩ := hy
          generalize yl.length = yln at *
          generalize yks.length = ykn at *
          have hs2 := HS.out.move (Below.heap_alloc wr (.cells #[.string nm, .int .i64 yk, .bool yf, .int .i64 yn, .string ys, .slice yla yln ylc, .slice yka ykn ykc] 54) _ hbm)
          have hlook := hs2.look nm hsz
          by_cases hm : nm ∈ (ks.map (·.1)).take i
          · rw [inB_yes hm] at hlook
            have HX : Hid (keysW (ks.map (·.1)) = 8) := by rw [Hid, HK.out, if_neg (H1.out hm)]
            clear hm hs2
            go_wp2
            go_ret
            exact ⟨ret_int (by rw [HX.out]), HW3.out.alloc _⟩
          · rw [inB_no hm] at hlook
            have H3 := Lib.hid (H2.out hm)
            obtain ⟨D, hown, hD⟩ := hs2
            have HO := Lib.hid hown
            have HD := Lib.hid hD
            clear hm hown hD
            go_wp2_with (at_mapUpdate; refine wpList_mapUpdate_own _ rfl _ _ _ 165 rfl 9 4 law9 Tryz.underlying165 boolR wo.heap.size i D rfl HO.out (by unfold maxLen; omega) _ _ _ rfl rfl (key_of nm hsz) _ [] rfl ?_; intro w5 ho5 hg5; have HO5 := Lib.hid ho5; have HG5 := Lib.hid hg5; clear ho5 hg5)
            go_roundw
            case rel => exact ⟨i + 1, by omega, by go_num, ⟨_, HO5.out, fun s => by rw [HTK.out]; exact seen_put HO.out.isMap HD.out nm hsz s⟩, H3.out, (HW3.out.alloc _).grown HG5.out (fun g e => by cases e; exact HW.out.size)⟩
            case measure => simp [intOf]; omega
        · obtain rfl : i = ks.length := by omega
          have HX : Hid (keysW (ks.map (·.1)) = 0) := by
            have := HND.out
            rw [List.take_of_length_le (by simp)] at this
            rw [Hid, HK.out, if_pos this]
          go_wp2
          go_ret
          exact ⟨ret_int (by rw [HX.out]), HW3.out⟩
end v
end Go.Proofs.YtcljplkkgpjhlaaGreatDoorR

/-
  Package value: alike, and the library's EqualFunc over values and over keys.
-/
import Derived.Test.YtonakfkiidhebaaDoorInside
import Derived.Test.YtonakfkiidhebaaDoorText
namespace Go.Proofs.YtonakfkiidhebaaDoor
open Go.ChangeShapes Go.WideShapes Go.ChangeAt Go.RowKit
variable {w : World}

theorem toList_beq (x y : ByteArray) : (x.toList == y.toList) = decide (x = y) := by
  rw [ByteArray.toList_eq, ByteArray.toList_eq]
  by_cases h : x = y
  · subst h; simp
  · rw [decide_eq_false h]
    cases e : x.data.toList == y.data.toList with
    | false => rfl
    | true => exact absurd (ByteArray.ext (Array.ext' (eq_of_beq e))) h
abbrev pval (nm : ByteArray) (k : Int) (f : Bool) (n : Int) (s : ByteArray) (la : Option Addr) (ln lc : Nat) (ka : Option Addr) (kn kc : Nat) : Value := .agg #[.string nm, .int .i64 k, .bool f, .int .i64 n, .string s, .slice la ln lc, .slice ka kn kc]
def pvalOf (p : ByteArray × M) : Value := match p with | (nm, .mk k f n s la lc l ka kc ks) => pval nm k f n s la l.length lc ka ks.length kc
theorem keq_any (p q : ByteArray × M) (w : World) : Calls Tryd.prog 40 #[pvalOf p, pvalOf q] w fun e w' => e = .returned (.bool (decide (p.1 = q.1))) ∧ Fresh w w' := by
  obtain ⟨nm, k, f, n, s, la, lc, l, ka, kc, ks⟩ := p
  obtain ⟨nm', k', f', n', s', la', lc', l', ka', kc', ks'⟩ := q
  dsimp only [pvalOf]
  generalize l.length = ln
  generalize ks.length = kn
  generalize l'.length = ln'
  generalize ks'.length = kn'
  rw [← toList_beq]
  go_enter Tryd.func40, Tryd.ntmps40
  go_wp2
  go_ret
  exact ⟨rfl, ((Fresh.refl w).alloc _).alloc _⟩
def namesEq (l m : List (ByteArray × M)) : Bool := decide (l.map (·.1) = m.map (·.1))
theorem namesEq_drop (l m : List (ByteArray × M)) (k : Nat) (hl : k < l.length) (hm : k < m.length) : namesEq (l.drop k) (m.drop k) = (decide (l[k].1 = m[k].1) && namesEq (l.drop (k + 1)) (m.drop (k + 1))) := by
  unfold namesEq
  rw [List.drop_eq_getElem_cons hl, List.drop_eq_getElem_cons hm, List.map_cons, List.map_cons]
  simp
theorem namesEq_parted {l m : List (ByteArray × M)} (h : l.length ≠ m.length) : namesEq l m = false := by
  refine decide_eq_false fun e => h ?_
  have := congrArg List.length e
  simpa using this
set_option maxRecDepth 100000 in
set_option maxHeartbeats 1000000 in
theorem keysEqual_any (ks ms : List (ByteArray × M)) (ka ma : Option Addr) (kc mc : Nat) (hk : RowAt w ka (pcells ks)) (hm : RowAt w ma (pcells ms)) (lk : ks.length ≤ 1000000) (_lm : ms.length ≤ 1000000) :
    Calls Tryd.prog 39 #[.slice ka ks.length kc, .slice ma ms.length mc, .func (.func 40) #[] #[]] w fun e w' => e = .returned (.bool (namesEq ks ms)) ∧ Fresh w w' := by
  by_cases hlen : ks.length = ms.length
  · have HK := Lib.hid hk
    have HM := Lib.hid hm
    have HL := Lib.hid hlen
    clear hk hm
    rw [← hlen]
    clear hlen
    go_enter Tryd.func39, Tryd.ntmps39
    go_wp2
    go_loopw [17] (fun i wr => ∃ k : Nat, k ≤ ks.length ∧ i = .int .i64 k ∧ Hid (namesEq ks ms = namesEq (ks.drop k) (ms.drop k)) ∧ Hid (Fresh w wr)) (fun i _ => ks.length - (intOf i).toNat)
    case atStart => exact ⟨0, Nat.zero_le _, rfl, rfl, Fresh.refl w⟩
    case round =>
      obtain ⟨k, hkk, rfl, HE, HW⟩ := hrel
      by_cases hlt : k < ks.length
      · have hltm : k < ms.length := by rw [← HL.out]; exact hlt
        obtain ⟨ga, ea⟩ : ∃ g, ka = some ⟨g, 0, none⟩ := by
          rcases HK.out with ⟨_, e⟩ | ⟨g, e, _⟩
          · have := congrArg List.length e
            rw [pcells_length] at this; simp at this; omega
          · exact ⟨g, e⟩
        obtain ⟨gb, eb⟩ : ∃ g, ma = some ⟨g, 0, none⟩ := by
          rcases HM.out with ⟨_, e⟩ | ⟨g, e, _⟩
          · have := congrArg List.length e
            rw [pcells_length] at this; simp at this; omega
          · exact ⟨g, e⟩
        subst ea eb
        obtain ⟨c, hc⟩ := prow_get (HK.out.move HW.out) k hlt
        obtain ⟨d, hd⟩ := prow_get (HM.out.move HW.out) k hltm
        have hgb : gb < wr.heap.size := World.block_lt_of_cell? wr _ d
        have HN := Lib.hid (namesEq_drop ks ms k hlt hltm)
        have HQ : Hid (∀ W, Calls Tryd.prog 40 #[pvalOf ks[k], pvalOf ms[k]] W fun e w' => e = .returned (.bool (decide (ks[k].1 = ms[k].1))) ∧ Fresh W w') := fun W => keq_any _ _ W
        generalize ks[k] = p at *
        generalize ms[k] = q at *
        obtain ⟨nm, y⟩ := p
        obtain ⟨nm', z⟩ := q
        obtain ⟨yk, yf, yn, ys, yla, ylc, yl, yka, ykc, yks⟩ := y
        obtain ⟨zk, zf, zn, zs, zla, zlc, zl, zka, zkc, zks⟩ := z
        obtain ⟨c0, c1, c2, c3, c4, c5⟩ := hc
        obtain ⟨d0, d1, d2, d3, d4, d5⟩ := hd
        dsimp only [pvalOf] at HQ c d HN
        generalize yl.length = yln at *
        generalize yks.length = ykn at *
        generalize zl.length = zln at *
        generalize zks.length = zkn at *
        generalize decide (nm = nm') = b at *
        cases b with
        | true =>
          go_wp2_with fail
          refine (HQ.out _).mono ?_
          rintro e w1 ⟨rfl, hf⟩
          have HW1 := Lib.hid (((HW.out.alloc _).alloc _).trans hf)
          clear hf
          go_wp2
          go_roundw
          case rel => exact ⟨k + 1, by omega, by go_num, by rw [Hid, HE.out, HN.out]; rfl, HW1.out⟩
          case measure => simp [intOf]; omega
        | false =>
          go_wp2_with fail
          refine (HQ.out _).mono ?_
          rintro e w1 ⟨rfl, hf⟩
          have HW1 := Lib.hid (((HW.out.alloc _).alloc _).trans hf)
          clear hf
          go_wp2
          go_ret
          exact ⟨ret_bool (by rw [HE.out, HN.out]; rfl), HW1.out⟩
      · obtain rfl : k = ks.length := by omega
        have H : Hid (namesEq ks ms = true) := by
          rw [Hid, HE.out, List.drop_length, HL.out, List.drop_length]; rfl
        clear HE
        go_wp2
        go_ret
        exact ⟨ret_bool H.out.symm, HW.out⟩
  · have H := Lib.hid (namesEq_parted hlen)
    have hb : ((ks.length : Int) == (ms.length : Int)) = false := beq_eq_false_iff_ne.2 (by omega)
    have hb2 : (ks.length == ms.length) = false := by simpa using hlen
    clear hlen
    rw [H.out]
    go_enter Tryd.func39, Tryd.ntmps39
    go_wp2
    go_ret
    exact ⟨rfl, Fresh.refl w⟩
/-! ### alike -/
theorem plainK_names (ks : List (ByteArray × M)) : (plainK ks).map (·.1) = ks.map (·.1) := by rw [plainK_eq]; simp
theorem alike_parted {k k' : Int} (h : k ≠ k') (f f' : Bool) (n n' : Int) (s s' : ByteArray) (l l' : List V) (ks ks' : List (ByteArray × V)) : (V.mk k f n s l ks).alike (.mk k' f' n' s' l' ks') = false :=
  decide_eq_false fun e => h e.1
theorem alike_flag (f f' : Bool) (n n' : Int) (s s' : ByteArray) (l l' : List V) (ks ks' : List (ByteArray × V)) : (V.mk 1 f n s l ks).alike (.mk 1 f' n' s' l' ks') = (f == f') := by
  simp [V.alike, V.kind, V.flag]
  cases f <;> cases f' <;> rfl
theorem alike_num (f f' : Bool) (n n' : Int) (s s' : ByteArray) (l l' : List V) (ks ks' : List (ByteArray × V)) : (V.mk 2 f n s l ks).alike (.mk 2 f' n' s' l' ks') = (n == n') := by
  simp [V.alike, V.kind, V.num]
  by_cases h : n = n' <;> simp [h]
theorem alike_text (f f' : Bool) (n n' : Int) (s s' : ByteArray) (l l' : List V) (ks ks' : List (ByteArray × V)) : (V.mk 3 f n s l ks).alike (.mk 3 f' n' s' l' ks') = (s.toList == s'.toList) := by
  rw [toList_beq]
  simp [V.alike, V.kind, V.text]
theorem alike_keys (f f' : Bool) (n n' : Int) (s s' : ByteArray) (l l' : List V) (ks ks' : List (ByteArray × V)) : (V.mk 5 f n s l ks).alike (.mk 5 f' n' s' l' ks') = decide (ks.map (·.1) = ks'.map (·.1)) := by
  simp [V.alike, V.kind, V.keys]
theorem alike_else {k : Int} (h1 : k ≠ 1) (h2 : k ≠ 2) (h3 : k ≠ 3) (h5 : k ≠ 5) (f f' : Bool) (n n' : Int) (s s' : ByteArray) (l l' : List V) (ks ks' : List (ByteArray × V)) : (V.mk k f n s l ks).alike (.mk k f' n' s' l' ks') = true :=
  decide_eq_true ⟨rfl, .inl h1, .inl h2, .inl h3, .inl h5⟩
set_option maxRecDepth 100000 in
set_option maxHeartbeats 1000000 in
theorem alike_any (m m' : M) (w : World) (hm : m.At w) (hm' : m'.At w) : Calls Tryd.prog 29 #[m.val, m'.val] w fun e w' => e = .returned (.bool (m.plain.alike m'.plain)) ∧ Fresh w w' := by
  obtain ⟨k, f, n, s, la, lc, l, ka, kc, ks⟩ := m
  obtain ⟨k', f', n', s', la', lc', l', ka', kc', ks'⟩ := m'
  obtain ⟨_, _, hk, _, lk, _⟩ := hm.parts
  obtain ⟨_, _, hk', _, lk', _⟩ := hm'.parts
  dsimp only [M.val, M.plain]
  by_cases e : k = k'
  · subst e
    by_cases h5 : k = 5
    · subst h5
      have H : Hid ((V.mk 5 f n s (plainL l) (plainK ks)).alike (V.mk 5 f' n' s' (plainL l') (plainK ks')) = namesEq ks ks') := by
        rw [Hid, alike_keys, plainK_names, plainK_names]; rfl
      rw [H.out]
      have HQ : Hid (∀ W, Fresh w W → Calls Tryd.prog 39 #[.slice ka ks.length kc, .slice ka' ks'.length kc', .func (.func 40) #[] #[]] W fun e w' => e = .returned (.bool (namesEq ks ks')) ∧ Fresh W w') := fun W hf => keysEqual_any ks ks' ka ka' kc kc' (hk.move hf) (hk'.move hf) lk lk'
      clear hk hk' hm hm' lk lk' H
      generalize namesEq ks ks' = b at *
      generalize l.length = ln at *
      generalize ks.length = kn at *
      generalize l'.length = ln' at *
      generalize ks'.length = kn' at *
      go_enter Tryd.func29, Tryd.ntmps29
      go_wp2_with fail
      refine (HQ.out _ (((Fresh.refl w).alloc _).alloc _)).mono ?_
      rintro e w1 ⟨rfl, hf⟩
      have HW1 := Lib.hid ((((Fresh.refl w).alloc _).alloc _).trans hf)
      clear hf
      go_wp2
      go_ret
      exact ⟨rfl, HW1.out⟩
    · clear hk hk' hm hm' lk lk'
      have b5 : (k == 5) = false := by simpa using h5
      by_cases h1 : k = 1
      · subst h1
        rw [alike_flag]
        generalize l.length = ln at *
        generalize ks.length = kn at *
        generalize l'.length = ln' at *
        generalize ks'.length = kn' at *
        clear h5 b5
        go_enter Tryd.func29, Tryd.ntmps29
        go_wp2
        go_ret
        exact ⟨rfl, ((Fresh.refl w).alloc _).alloc _⟩
      have b1 : (k == 1) = false := by simpa using h1
      by_cases h2 : k = 2
      · subst h2
        rw [alike_num]
        generalize l.length = ln at *
        generalize ks.length = kn at *
        generalize l'.length = ln' at *
        generalize ks'.length = kn' at *
        clear h5 b5 h1 b1
        go_enter Tryd.func29, Tryd.ntmps29
        go_wp2
        go_ret
        exact ⟨rfl, ((Fresh.refl w).alloc _).alloc _⟩
      have b2 : (k == 2) = false := by simpa using h2
      by_cases h3 : k = 3
      · subst h3
        rw [alike_text]
        generalize l.length = ln at *
        generalize ks.length = kn at *
        generalize l'.length = ln' at *
        generalize ks'.length = kn' at *
        clear h5 b5 h1 b1 h2 b2
        go_enter Tryd.func29, Tryd.ntmps29
        go_wp2
        go_ret
        exact ⟨rfl, ((Fresh.refl w).alloc _).alloc _⟩
      have b3 : (k == 3) = false := by simpa using h3
      rw [alike_else h1 h2 h3 h5]
      generalize l.length = ln at *
      generalize ks.length = kn at *
      generalize l'.length = ln' at *
      generalize ks'.length = kn' at *
      clear h1 h2 h3 h5
      go_enter Tryd.func29, Tryd.ntmps29
      go_wp2
      go_ret
      exact ⟨rfl, ((Fresh.refl w).alloc _).alloc _⟩
  · rw [alike_parted e]
    have hb : (k == k') = false := by simpa using e
    clear e hk hk' hm hm' lk lk'
    generalize l.length = ln at *
    generalize ks.length = kn at *
    generalize l'.length = ln' at *
    generalize ks'.length = kn' at *
    go_enter Tryd.func29, Tryd.ntmps29
    go_wp2
    go_ret
    exact ⟨rfl, ((Fresh.refl w).alloc _).alloc _⟩
theorem row_some {w : World} {a : Option Addr} {l : List M} (h : RowAt w a (mcells l)) (k : Nat) (hk : k < l.length) : ∃ g, a = some ⟨g, 0, none⟩ := by
  rcases h with ⟨_, e⟩ | ⟨g, e, _⟩
  · have := congrArg List.length e
    rw [mcells_length] at this; simp at this; omega
  · exact ⟨g, e⟩
set_option maxRecDepth 100000 in
set_option maxHeartbeats 1000000 in
theorem allAlike_any (l m : List M) (la ma : Option Addr) (lc mc : Nat) (w : World) (hl : RowAt w la (mcells l)) (hm : RowAt w ma (mcells m)) (ll : l.length ≤ 1000000) (al : ∀ x ∈ l, x.At w) (am : ∀ x ∈ m, x.At w) :
    Calls Tryd.prog 30 #[.slice la l.length lc, .slice ma m.length mc, .func (.func 29) #[] #[]] w fun e w' => e = .returned (.bool (alikeL (l.map M.plain) (m.map M.plain))) ∧ Fresh w w' := by
  by_cases hlen : l.length = m.length
  · have HK := Lib.hid hl
    have HM := Lib.hid hm
    have HL := Lib.hid hlen
    have HA := Lib.hid al
    have HB := Lib.hid am
    clear hl hm al am
    rw [← hlen]
    clear hlen
    go_enter Tryd.func30, Tryd.ntmps30
    go_wp2
    go_loopw [17] (fun i wr => ∃ k : Nat, k ≤ l.length ∧ i = .int .i64 k ∧ Hid (alikeL (l.map M.plain) (m.map M.plain) = alikeL ((l.map M.plain).drop k) ((m.map M.plain).drop k)) ∧ Hid (Fresh w wr)) (fun i _ => l.length - (intOf i).toNat)
    case atStart => exact ⟨0, Nat.zero_le _, rfl, rfl, Fresh.refl w⟩
    case round =>
      obtain ⟨k, hkk, rfl, HE, HW⟩ := hrel
      by_cases hlt : k < l.length
      · have hltm : k < m.length := by rw [← HL.out]; exact hlt
        obtain ⟨ga, ea⟩ := row_some HK.out k hlt
        obtain ⟨gb, eb⟩ := row_some HM.out k hltm
        subst ea eb
        have hc := mrow_get (HK.out.move HW.out) k hlt
        have hd := mrow_get (HM.out.move HW.out) k hltm
        have HN := Lib.hid (alikeL_drop (l.map M.plain) (m.map M.plain) k (by simpa using hlt) (by simpa using hltm))
        rw [List.getElem_map, List.getElem_map] at HN
        have HQ : Hid (∀ W, Fresh wr W → Calls Tryd.prog 29 #[l[k].val, m[k].val] W fun e w' => e = .returned (.bool (l[k].plain.alike m[k].plain)) ∧ Fresh W w') := fun W hf => alike_any _ _ W ((HA.out _ (List.getElem_mem _)).move (HW.out.trans hf)) ((HB.out _ (List.getElem_mem _)).move (HW.out.trans hf))
        generalize l[k] = y at *
        generalize m[k] = z at *
        generalize y.plain.alike z.plain = b at *
        obtain ⟨yk, yf, yn, ys, yla, ylc, yl, yka, ykc, yks⟩ := y
        obtain ⟨zk, zf, zn, zs, zla, zlc, zl, zka, zkc, zks⟩ := z
        obtain ⟨c0, c1, c2, c3, c4, c5⟩ := hc
        obtain ⟨d0, d1, d2, d3, d4, d5⟩ := hd
        have hgb : gb < wr.heap.size := World.block_lt_of_cell? wr _ d0
        dsimp only [M.val] at HQ
        generalize yl.length = yln at *
        generalize yks.length = ykn at *
        generalize zl.length = zln at *
        generalize zks.length = zkn at *
        cases b with
        | true =>
          go_wp2_with fail
          refine (HQ.out _ (((Fresh.refl wr).alloc _).alloc _)).mono ?_
          rintro e w1 ⟨rfl, hf⟩
          have HW1 := Lib.hid (((HW.out.alloc _).alloc _).trans hf)
          clear hf
          go_wp2
          go_roundw
          case rel => exact ⟨k + 1, by omega, by go_num, by rw [Hid, HE.out, HN.out]; rfl, HW1.out⟩
          case measure => simp [intOf]; omega
        | false =>
          go_wp2_with fail
          refine (HQ.out _ (((Fresh.refl wr).alloc _).alloc _)).mono ?_
          rintro e w1 ⟨rfl, hf⟩
          have HW1 := Lib.hid (((HW.out.alloc _).alloc _).trans hf)
          clear hf
          go_wp2
          go_ret
          exact ⟨ret_bool (by rw [HE.out, HN.out]; rfl), HW1.out⟩
      · obtain rfl : k = l.length := by omega
        have H : Hid (alikeL (l.map M.plain) (m.map M.plain) = true) := by
          rw [Hid, HE.out, List.drop_eq_nil_of_le (by simp), List.drop_eq_nil_of_le (by simp [HL.out])]; rfl
        clear HE
        go_wp2
        go_ret
        exact ⟨ret_bool H.out.symm, HW.out⟩
  · have H : Hid (alikeL (l.map M.plain) (m.map M.plain) = false) := alikeL_parted (by simpa using hlen)
    have hb : ((l.length : Int) == (m.length : Int)) = false := beq_eq_false_iff_ne.2 (by omega)
    have hb2 : (l.length == m.length) = false := by simpa using hlen
    clear hlen
    rw [H.out]
    go_enter Tryd.func30, Tryd.ntmps30
    go_wp2
    go_ret
    exact ⟨rfl, Fresh.refl w⟩
end Go.Proofs.YtonakfkiidhebaaDoor

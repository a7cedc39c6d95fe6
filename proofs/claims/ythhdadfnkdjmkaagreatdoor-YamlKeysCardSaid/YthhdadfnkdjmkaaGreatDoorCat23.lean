/-
  Dashes in one line, and a one: what they come to.
  Package jlex: the words that are always written alike.
  Package jlex: the first word of a text.
  Package jlex: the words of a text.
  Quote, by package utf and by the document: what a whole text is, quoted.
-/
import Derived.Test.YthhdadfnkdjmkaaGreatDoorCat21
import Derived.Test.YthhdadfnkdjmkaaGreatDoorCat22
import Derived.Test.YthhdadfnkdjmkaaGreatDoorCat01
import Derived.Maps.Own
import Derived.Maps.OwnOps
import Derived.Maps.OwnSet
import Derived.Test.YthhdadfnkdjmkaaGreatDoorCat09
import Derived.Test.YthhdadfnkdjmkaaGreatDoorCat10
import Derived.Test.YthhdadfnkdjmkaaGreatDoorCat06
namespace Go.Proofs.YthhdadfnkdjmkaaGreatDoor.y
def dashL : Nat → List UInt8
  | 0 => []
  | n + 1 => dashL n ++ [45, 32]
theorem dashL_len : ∀ n, (dashL n).length = 2 * n
  | 0 => rfl
  | n + 1 => by rw [dashL, List.length_append, dashL_len n]; simp; omega
/-- Rows of m dashes from an indent on, and a one behind them. -/
def dRows (n a : Nat) : Nat → List Rw
  | 0 => [⟨n, a, false, [49]⟩]
  | m + 1 => ⟨n, a, true, []⟩ :: dRows n (a + 2) m
def dNest : Nat → v.V
  | 0 => vInt 1
  | m + 1 => vList [dNest m]
theorem dNest_depth : ∀ m, (dNest m).depth = m
  | 0 => by simp [dNest, vInt, v.V.depth]
  | m + 1 => by simp [dNest, vList, v.V.depth, v.depthL, dNest_depth m]
theorem dNest_size : ∀ m, (dNest m).size = m + 1
  | 0 => by simp [dNest, vInt, v.V.size, v.sizeL, v.sizeK]
  | m + 1 => by simp [dNest, vList, v.V.size, v.sizeL, v.sizeK, dNest_size m]; omega
theorem dRows_ind (n : Nat) : ∀ (m a : Nat), ∀ r ∈ dRows n a m, a ≤ r.indent
  | 0, a, r, h => by simp [dRows] at h; subst h; exact Nat.le_refl _
  | m + 1, a, r, h => by
    rw [dRows] at h
    rcases List.mem_cons.1 h with rfl | h
    · exact Nat.le_refl _
    · exact Nat.le_trans (by omega) (dRows_ind n m (a + 2) r h)
theorem seg_whole {ind : Int} {S : List Rw} (h : ∀ r ∈ S, ind < (r.indent : Int)) : seg ind S = S ∧ off ind S = [] := by
  induction S with
  | nil => exact ⟨rfl, rfl⟩
  | cons r S ih =>
    obtain ⟨h1, h2⟩ := ih fun x hx => h x (List.mem_cons_of_mem _ hx)
    have h0 : decide (ind < (r.indent : Int)) = true := decide_eq_true (h r (List.mem_cons_self ..))
    unfold seg off at *
    rw [List.takeWhile_cons, List.dropWhile_cons, h0]
    exact ⟨by rw [if_pos rfl, h1], by rw [if_pos rfl, h2]⟩
theorem blk_dRows (n : Nat) : ∀ (m a ins : Nat), ins ≤ 32 → blk (dRows n a m) ins = if ins + m ≤ 32 then .ok (dNest m) else .error (n, 9)
  | 0, a, ins, h => by
    have he : entM [49] = (0, none) := by rfl
    have hs : scM [49] ins = (0, vInt 1) := by rfl
    rw [dRows, blk_alone rfl he, hs, if_neg (by simp), if_pos (by omega)]
    rfl
  | m + 1, a, ins, h => by
    rw [dRows, blk_dash rfl]
    by_cases h32 : 32 ≤ ins
    · rw [if_pos h32, if_neg (by omega)]
    · rw [if_neg h32, items.eq_def]
      obtain ⟨h1, h2⟩ := seg_whole (ind := (a : Int)) (S := dRows n (a + 2) m) (fun r hr => by have := dRows_ind n m (a + 2) r hr; omega)
      simp only [ne_eq, not_true_eq_false, Bool.true_eq_false, or_self, if_false, h1, h2]
      rw [blk_dRows n m (a + 2) (ins + 1) (by omega)]
      by_cases hm : ins + 1 + m ≤ 32
      · rw [if_pos hm, if_pos (by omega)]
        dsimp only
        rw [items.eq_def]
        rfl
      · rw [if_neg hm, if_neg (by omega)]
theorem cut_dash (k : Nat) (h1 : 28 ≤ k) (h2 : k ≤ 36) : cutL V (dashL k ++ [49]) = (dRows 0 0 k, 0, 0) := by
  obtain ⟨j, rfl⟩ : ∃ j, k = 28 + j := ⟨k - 28, by omega⟩
  have hj : j < 9 := by omega
  match j, hj with
  | 0, _ => exact show cutL V (dashL 28 ++ [49]) = (dRows 0 0 28, 0, 0) from by kernel_rfl
  | 1, _ => exact show cutL V (dashL 29 ++ [49]) = (dRows 0 0 29, 0, 0) from by kernel_rfl
  | 2, _ => exact show cutL V (dashL 30 ++ [49]) = (dRows 0 0 30, 0, 0) from by kernel_rfl
  | 3, _ => exact show cutL V (dashL 31 ++ [49]) = (dRows 0 0 31, 0, 0) from by kernel_rfl
  | 4, _ => exact show cutL V (dashL 32 ++ [49]) = (dRows 0 0 32, 0, 0) from by kernel_rfl
  | 5, _ => exact show cutL V (dashL 33 ++ [49]) = (dRows 0 0 33, 0, 0) from by kernel_rfl
  | 6, _ => exact show cutL V (dashL 34 ++ [49]) = (dRows 0 0 34, 0, 0) from by kernel_rfl
  | 7, _ => exact show cutL V (dashL 35 ++ [49]) = (dRows 0 0 35, 0, 0) from by kernel_rfl
  | 8, _ => exact show cutL V (dashL 36 ++ [49]) = (dRows 0 0 36, 0, 0) from by kernel_rfl
theorem parse_dash (k : Nat) (h1 : 28 ≤ k) (h2 : k ≤ 36) : parseM (dashL k ++ [49]) = if k ≤ 32 then (dNest k, 0, 0) else (zV, 0, 9) := by
  have hc : cutL Lib.validD (dashL k ++ [49]) = (dRows 0 0 k, 0, 0) := cut_dash k h1 h2
  unfold parseM
  rw [hc, if_neg (by simp)]
  obtain ⟨j, rfl⟩ : ∃ j, k = j + 1 := ⟨k - 1, by omega⟩
  dsimp only
  unfold parseR
  rw [blk_dRows 0 (j + 1) 0 0 (by omega), dRows]
  dsimp only
  rw [if_neg (by simp)]
  by_cases hk : j + 1 ≤ 32
  · rw [if_pos (by omega), if_pos hk]
  · rw [if_neg (by omega), if_neg hk]
/-- The law's example. -/
def exL : List UInt8 := [97, 58, 10, 32, 32, 45, 32, 49, 10]
def exV : v.V := vKeys [(tx [97], dNest 1)]
theorem cut_ex : cutL V exL = (⟨0, 0, false, [97, 58]⟩ :: dRows 1 2 1, 0, 0) := by kernel_rfl
theorem parse_ex : parseM exL = (exV, 0, 0) := by
  have hc : cutL Lib.validD exL = (⟨0, 0, false, [97, 58]⟩ :: dRows 1 2 1, 0, 0) := cut_ex
  have he : entM [97, 58] = (0, some ⟨[97], false, []⟩) := by rfl
  have hk : keyE ⟨[97], false, []⟩ (([] : List (ByteArray × v.V)).map (·.1)) = 0 := by decide
  obtain ⟨h1, h2⟩ := seg_whole (ind := 0) (S := dRows 1 2 1) (fun r hr => by have := dRows_ind 1 1 2 r hr; omega)
  unfold parseM
  rw [hc, if_neg (by simp)]
  dsimp only
  unfold parseR
  dsimp only
  rw [if_neg (by simp), blk_keys rfl he, if_neg (by omega), pairs.eq_def]
  dsimp only
  rw [he]
  dsimp only
  rw [hk]
  have e0 : ((0 : Nat) : Int) = 0 := rfl
  simp only [e0, h1, h2, blk_dRows 1 1 2 1 (by omega)]
  rw [if_neg (by simp), if_neg (by simp), if_neg (by simp), if_pos True.intro, if_pos (by omega)]
  dsimp only
  rw [pairs.eq_def]
  rfl
end Go.Proofs.YthhdadfnkdjmkaaGreatDoor.y
namespace Go.Proofs.YthhdadfnkdjmkaaGreatDoor
open Go.ChangeShapes Go.WideShapes Go.ChangeAt Go.RowKit
variable {w : World}

def skey (s : ByteArray) : Lit := .string s.data.toList
theorem skey_inj {a b : ByteArray} (h : skey a = skey b) : a = b := by
  unfold skey at h
  injection h with h
  exact ByteArray.ext (Array.ext' h)
theorem skey_of (s : ByteArray) (hs : s.size ≤ 9000000) : keyOf Tryz.prog 9 (.string s) = some (skey s) := Go.WideMaps.keyOf_string_mk Tryz.underlying9 (by unfold maxLen; omega)
theorem slaw9 : Maps.Keyed Tryz.prog 9 := Maps.string_keyed Tryz.underlying9
theorem szero (w : World) : (zeroValue 87).run Tryz.prog w = .ok (.int .i64 0) w := by kernel_rfl
def kindR : Value → Option (DataW Unit × List MemPlace)
  | .int .i64 n => some (.lit (.int .i64 n), [])
  | _ => none
theorem kindR_inv {v : Value} {y : DataW Unit × List MemPlace} (h : kindR v = some y) : ∃ n, v = .int .i64 n ∧ y = (.lit (.int .i64 n), []) := by
  unfold kindR at h
  split at h
  · exact ⟨_, rfl, by cases h; rfl⟩
  · cases h
/-- What stands beside a text in a list, the newest first. -/
def lk : List (ByteArray × Int) → ByteArray → Option Int
  | [], _ => none
  | (k, n) :: es, s => if s = k then some n else lk es s
/-- A map of such a list, made since w0. -/
def SignW (w0 w : World) (es : List (ByteArray × Int)) : Prop :=
  (∃ D : DataW Unit, w.ownsMap Tryz.prog 9 kindR w0.heap.size es.length D ∧ ∀ s : ByteArray, D.atKey (skey s) (.lit (.int .i64 0)) = .lit (.int .i64 ((lk es s).getD 0)) ∧ Maps.has D (skey s) = (lk es s).isSome) ∧ Fresh w0 w
theorem sign_made (w : World) : SignW w (w.alloc (.map #[] 0)) [] := ⟨⟨_, World.ownsMap_made w _ _ _, fun _ => ⟨rfl, rfl⟩⟩, (Fresh.refl w).alloc _⟩
theorem wpList_insert_sign {w0 w : World} {ops : Array Oper} {rest : List Oper} {o : Oper} {a : Act} {Q : Exit → Act → World → Prop} (hg : o.guard = none) (m x v : Operand) (hop : o.op = Op.insert 121 m x v)
    (es : List (ByteArray × Int)) (hm : a.eval m = .map (some w0.heap.size)) (hs : Hid (SignW w0 w es)) (hl : es.length < 1000) (nm : ByteArray) (k : Int) (hx : a.eval x = .string nm) (hv : a.eval v = .int .i64 k) (hn : nm.size ≤ 9000000)
    (hK : ∀ w', Hid (SignW w0 w' ((nm, k) :: es)) → wpList Tryz.prog ops Q rest (a.put o.dst undef) w') : wpList Tryz.prog ops Q (o :: rest) a w := by
  refine wpList_plain hg fun K' hK' => ?_
  obtain ⟨⟨D, hown, hD⟩, hf⟩ := hs.out
  obtain ⟨w', hrun, r1, r2⟩ := hown.update slaw9 Tryz.underlying121 (by unfold maxLen; omega) (skey_of nm hn) (show kindR (.int .i64 k) = some (.lit (.int .i64 k), []) from rfl)
  unfold Oper.wp
  simp [execOp, hop, hm, hx, hv, hrun, Result.andThen]
  refine hK' _ _ (hK w' ⟨⟨_, r1, fun s => ?_⟩, Fresh.grown hf r2 (fun g e => by injection e with e; omega)⟩)
  have hk : WideAt.IsKeyLit (skey nm) := slaw9.key (v := .string nm) (l := skey nm) (skey_of nm hn)
  by_cases h : s = nm
  · subst h
    rw [Maps.atKey_put_same hown.isMap hk, Maps.has_put_same hown.isMap hk, lk, if_pos rfl]
    exact ⟨rfl, rfl⟩
  · rw [Maps.atKey_put_other (fun e => h (skey_inj e)), Maps.has_put_other (fun e => h (skey_inj e)), lk, if_neg h]
    exact hD s
def signL : List (ByteArray × Int) := [(⟨#[102, 97, 108, 115, 101]⟩, 9), (⟨#[116, 114, 117, 101]⟩, 8), (⟨#[110, 117, 108, 108]⟩, 7), (⟨#[44]⟩, 5), (⟨#[58]⟩, 4), (⟨#[93]⟩, 3), (⟨#[91]⟩, 2), (⟨#[125]⟩, 1), (⟨#[123]⟩, 0)]
/-- The Kind of a word that is always written alike. -/
def signK (s : ByteArray) : Option Int := lk signL s
/-- Block b is the map of these. -/
def Known (w : World) (b : Nat) : Prop := ∃ D : DataW Unit, w.ownsMap Tryz.prog 9 kindR b 9 D ∧ ∀ s : ByteArray, D.atKey (skey s) (.lit (.int .i64 0)) = .lit (.int .i64 ((signK s).getD 0)) ∧ Maps.has D (skey s) = (signK s).isSome
theorem Known.lt {w : World} {b : Nat} (h : Known w b) : b < w.heap.size := by obtain ⟨D, h1, _⟩ := h; exact h1.lt
theorem Known.move {w w' : World} {b : Nat} (h : Known w b) (hb : w'.heap[b]? = w.heap[b]?) : Known w' b := by
  obtain ⟨D, ⟨es, clock, h1, r⟩, h2⟩ := h
  exact ⟨D, ⟨es, clock, hb.trans h1, r⟩, h2⟩
theorem Known.fresh {w w' : World} {b : Nat} (h : Known w b) (f : Fresh w w') : Known w' b := h.move (f.block b h.lt)
theorem Known.look {w : World} {b : Nat} (h : Known w b) (s : ByteArray) (hs : s.size ≤ 9000000) : (Instr.lookup 121 (.map (some b)) (.string s) true).run Tryz.prog w = .ok (.tuple #[.int .i64 ((signK s).getD 0), .bool (signK s).isSome]) w := by
  obtain ⟨D, h1, h2⟩ := h
  obtain ⟨v, ps, hr, hv⟩ := h1.look_ok slaw9 Tryz.underlying121 (szero w) (zd := .lit (.int .i64 0)) (zp := []) rfl (skey_of s hs)
  obtain ⟨n, rfl, e⟩ := kindR_inv hv
  rw [(h2 s).1] at e
  simp only [Prod.mk.injEq, DataW.lit.injEq, Lit.int.injEq] at e
  rw [e.1.2, ← (h2 s).2]
  exact hr
set_option maxRecDepth 100000 in
set_option maxHeartbeats 1000000 in
theorem signs_any (w : World) : Calls Tryz.prog 70 #[] w fun e w' => e = .returned (.map (some w.heap.size)) ∧ Known w' w.heap.size ∧ Fresh w w' := by
  have hmm := @run_makeMap Tryz.prog
  have HS := Lib.hid (sign_made w)
  go_enter Tryz.func70, Tryz.ntmps70
  go_wp2_with (with_reducible refine wpList_insert_sign rfl _ _ _ rfl _ rfl HS (by decide) _ _ rfl rfl (by decide) ?_; intro w1 HS)
  go_ret
  exact ⟨rfl, HS.out.1, HS.out.2⟩
end Go.Proofs.YthhdadfnkdjmkaaGreatDoor
namespace Go.Proofs.YthhdadfnkdjmkaaGreatDoor
open Go.ChangeShapes Go.WideShapes Go.ChangeAt Go.RowKit
attribute [local go_sem ↓] Go.wp_at_zero Go.wp_at_succ
variable {w : World}

/-- A word but for its place, how many bytes it took, and the code. -/
structure Word where
  kind : Int
  text : List UInt8
  int : Int
  used : Nat
  code : Int
def firstF (l : List UInt8) : Word := match l with
  | [] => ⟨0, [], 0, 1, 6⟩
  | c :: r => if c = 34 then ⟨6, (unqF (c :: r)).1, 0, (unqF (c :: r)).2.1, (unqF (c :: r)).2.2⟩
    else if startB c = true then ⟨10, [], wholeV ((c :: r).take (cnt innB (c :: r))), cnt innB (c :: r), wholeE ((c :: r).take (cnt innB (c :: r)))⟩
    else if letB c = true then ⟨(signK (bs ((c :: r).take (cnt letB (c :: r))))).getD 0, [], 0, cnt letB (c :: r), if (signK (bs ((c :: r).take (cnt letB (c :: r))))).isSome = true then 0 else 6⟩
    else ⟨(signK (bs [c])).getD 0, [], 0, 1, if (signK (bs [c])).isSome = true then 0 else 6⟩
def wordIs (x : Word) : Ending := .returned (.tuple #[.agg #[.int .i64 x.kind, .string (bs x.text), .int .i64 x.int, .int .i64 0], .int .i64 (x.used : Int), .int .i64 x.code])
theorem box_four {w w' : World} {a b c d : Value} {T : TypeId} (f : Fresh (w.alloc (.cells #[a, b, c, d] T)) w') :
    w'.heap[w.heap.size]? = some (.cells #[a, b, c, d] T (0, 0)) := by
  rw [f.block w.heap.size (by simp)]
  exact at_new w _
theorem frozen_of {w : World} {b : Nat} {cs : Array Value} {T : TypeId} (h : w.heap[b]? = some (.cells cs T (0, 0))) (i : Nat) : w.frozen? ⟨b, i, none⟩ = false := by simp [World.frozen?, h]
set_option maxRecDepth 100000 in
set_option maxHeartbeats 2000000 in
theorem first_sign (c : UInt8) (r : List UInt8) (b : Nat) (w : World) (hs : (c :: r).length ≤ 9000000) (h34 : c ≠ 34) (hst : startB c = false) (hk : Known w b) :
    Calls Tryz.prog 73 #[.string (bs (c :: r)), .map (some b)] w fun e w' => e = wordIs (firstF (c :: r)) ∧ Fresh w w' := by
  have e34 : ((c.toNat : Int) == 34) = false := by rw [beq_eq_false_iff_ne]; intro e; exact h34 (UInt8.toNat_inj.1 (by rw [show (34 : UInt8).toNat = 34 from rfl]; omega))
  have HST := Lib.hid (fun W => starts_any c W)
  rw [hst] at HST
  have HLT := Lib.hid (fun W => isLetter_any c W)
  have hZ : firstF (c :: r) = if letB c = true then ⟨(signK (bs ((c :: r).take (cnt letB (c :: r))))).getD 0, [], 0, cnt letB (c :: r), if (signK (bs ((c :: r).take (cnt letB (c :: r))))).isSome = true then 0 else 6⟩
    else ⟨(signK (bs [c])).getD 0, [], 0, 1, if (signK (bs [c])).isSome = true then 0 else 6⟩ := by rw [firstF, if_neg h34, if_neg (by rw [hst]; simp)]
  have hsz := bs_size (c :: r)
  obtain ⟨p1, p2, _, p4⟩ := bs_cons c r
  have hkn := hk.move (Below.heap_alloc w (.cells #[.int .i64 0, .string ⟨#[]⟩, .int .i64 0, .int .i64 0] 89) _ hk.lt)
  have HF := Lib.hid (fun o => (Fresh.refl w).alloc o)
  cases hl : letB c with
  | true =>
    rw [hl] at HLT hZ
    rw [if_pos rfl] at hZ
    have HA := Lib.hid (fun W => ahead_letter (bs (c :: r)) W (by omega))
    rw [bs_toList] at HA
    have hq := cnt_le letB (c :: r)
    have q1 : (bs (c :: r)).extract 0 (cnt letB (c :: r)) = bs ((c :: r).take (cnt letB (c :: r))) := bs_take _ _
    have q2 : cnt letB (c :: r) ≤ (bs (c :: r)).size := by omega
    have hlook := hkn.look (bs ((c :: r).take (cnt letB (c :: r)))) (by rw [bs_size, List.length_take]; omega)
    have HZ := Lib.hid hZ
    generalize firstF (c :: r) = Z at *
    generalize bs ((c :: r).take (cnt letB (c :: r))) = q at *
    generalize cnt letB (c :: r) = n at *
    generalize bs (c :: r) = s at *
    clear hk hkn hZ hst h34 hl hsz hq
    cases hso : signK q with
    | none =>
      rw [hso] at hlook HZ
      clear hso
      go_enter Tryz.func73, Tryz.ntmps73
      go_wp2_with fail
      refine (HST.out _).mono ?_
      rintro e w' ⟨rfl, rfl⟩
      go_wp2_with fail
      refine (HLT.out _).mono ?_
      rintro e w' ⟨rfl, rfl⟩
      go_wp2_with fail
      refine (HA.out _).mono ?_
      rintro e w' ⟨rfl, rfl⟩
      go_wp2
      refine bodyPost_ret (v := .tuple #[.agg #[.int .i64 0, .string ⟨#[]⟩, .int .i64 0, .int .i64 0], .int .i64 n, .int .i64 6]) (by simp [results, Tryz.results73, go_sem]) rfl ⟨?_, HF.out _⟩
      rw [HZ.out]; rfl
    | some k =>
      rw [hso] at hlook HZ
      clear hso
      go_enter Tryz.func73, Tryz.ntmps73
      go_wp2_with fail
      refine (HST.out _).mono ?_
      rintro e w' ⟨rfl, rfl⟩
      go_wp2_with fail
      refine (HLT.out _).mono ?_
      rintro e w' ⟨rfl, rfl⟩
      go_wp2_with fail
      refine (HA.out _).mono ?_
      rintro e w' ⟨rfl, rfl⟩
      go_wp2
      refine bodyPost_ret (v := .tuple #[.agg #[.int .i64 k, .string ⟨#[]⟩, .int .i64 0, .int .i64 0], .int .i64 n, .int .i64 0]) (by simp [results, Tryz.results73, go_sem]) rfl ⟨?_, HF.out _⟩
      rw [HZ.out]; rfl
  | false =>
    rw [hl] at HLT hZ
    rw [if_neg (by simp)] at hZ
    have q1 : (bs (c :: r)).extract 0 1 = bs [c] := bs_take 1 (c :: r)
    have q2 : 1 ≤ (bs (c :: r)).size := by omega
    have hlook := hkn.look (bs [c]) (by rw [bs_size]; simp)
    have HZ := Lib.hid hZ
    generalize firstF (c :: r) = Z at *
    generalize bs [c] = q at *
    generalize bs (c :: r) = s at *
    clear hk hkn hZ hst h34 hl hsz
    cases hso : signK q with
    | none =>
      rw [hso] at hlook HZ
      clear hso
      go_enter Tryz.func73, Tryz.ntmps73
      go_wp2_with fail
      refine (HST.out _).mono ?_
      rintro e w' ⟨rfl, rfl⟩
      go_wp2_with fail
      refine (HLT.out _).mono ?_
      rintro e w' ⟨rfl, rfl⟩
      go_wp2
      refine bodyPost_ret (v := .tuple #[.agg #[.int .i64 0, .string ⟨#[]⟩, .int .i64 0, .int .i64 0], .int .i64 1, .int .i64 6]) (by simp [results, Tryz.results73, go_sem]) rfl ⟨?_, HF.out _⟩
      rw [HZ.out]; rfl
    | some k =>
      rw [hso] at hlook HZ
      clear hso
      go_enter Tryz.func73, Tryz.ntmps73
      go_wp2_with fail
      refine (HST.out _).mono ?_
      rintro e w' ⟨rfl, rfl⟩
      go_wp2_with fail
      refine (HLT.out _).mono ?_
      rintro e w' ⟨rfl, rfl⟩
      go_wp2
      refine bodyPost_ret (v := .tuple #[.agg #[.int .i64 k, .string ⟨#[]⟩, .int .i64 0, .int .i64 0], .int .i64 1, .int .i64 0]) (by simp [results, Tryz.results73, go_sem]) rfl ⟨?_, HF.out _⟩
      rw [HZ.out]; rfl
set_option maxRecDepth 100000 in
set_option maxHeartbeats 2000000 in
theorem first_num (c : UInt8) (r : List UInt8) (b : Nat) (w : World) (hs : (c :: r).length ≤ 9000000) (h34 : c ≠ 34) (hst : startB c = true) (hr : RangeVar w) :
    Calls Tryz.prog 73 #[.string (bs (c :: r)), .map (some b)] w fun e w' => e = wordIs (firstF (c :: r)) ∧ Fresh w w' := by
  have e34 : ((c.toNat : Int) == 34) = false := by rw [beq_eq_false_iff_ne]; intro e; exact h34 (UInt8.toNat_inj.1 (by rw [show (34 : UInt8).toNat = 34 from rfl]; omega))
  have HST := Lib.hid (fun W => starts_any c W)
  rw [hst] at HST
  have hZ : firstF (c :: r) = ⟨10, [], wholeV ((c :: r).take (cnt innB (c :: r))), cnt innB (c :: r), wholeE ((c :: r).take (cnt innB (c :: r)))⟩ := by rw [firstF, if_neg h34, if_pos hst]
  have hsz := bs_size (c :: r)
  obtain ⟨p1, p2, _, p4⟩ := bs_cons c r
  have HA := Lib.hid (fun W => ahead_number (bs (c :: r)) W (by omega))
  rw [bs_toList] at HA
  have hq := cnt_le innB (c :: r)
  have q1 : (bs (c :: r)).extract 0 (cnt innB (c :: r)) = bs ((c :: r).take (cnt innB (c :: r))) := bs_take _ _
  have q2 : cnt innB (c :: r) ≤ (bs (c :: r)).size := by omega
  have HW := Lib.hid (whole_any (bs ((c :: r).take (cnt innB (c :: r)))) (w.alloc (.cells #[.int .i64 10, .string ⟨#[]⟩, .int .i64 0, .int .i64 0] 89)) (by rw [bs_size, List.length_take]; omega) (hr.move ((Fresh.refl w).alloc _)))
  rw [bs_toList] at HW
  have HZ := Lib.hid hZ
  have HF := Lib.hid (fun o => (Fresh.refl w).alloc o)
  generalize firstF (c :: r) = Z at *
  generalize wholeV ((c :: r).take (cnt innB (c :: r))) = v at *
  generalize wholeE ((c :: r).take (cnt innB (c :: r))) = x at *
  generalize bs ((c :: r).take (cnt innB (c :: r))) = q at *
  generalize cnt innB (c :: r) = n at *
  generalize bs (c :: r) = s at *
  clear hZ hst h34 hsz hq hr
  go_enter Tryz.func73, Tryz.ntmps73
  go_wp2_with fail
  refine (HST.out _).mono ?_
  rintro e w' ⟨rfl, rfl⟩
  go_wp2_with fail
  refine (HA.out _).mono ?_
  rintro e w' ⟨rfl, rfl⟩
  go_wp2_with fail
  refine HW.out.mono ?_
  rintro e w1 ⟨rfl, hf⟩
  have hb := box_four hf
  have c0 := cell_of_at hb (i := 0) rfl
  have c1 := cell_of_at hb (i := 1) rfl
  have c2 := cell_of_at hb (i := 2) rfl
  have c3 := cell_of_at hb (i := 3) rfl
  have f0 := frozen_of hb 0
  have f1 := frozen_of hb 1
  have f2 := frozen_of hb 2
  have f3 := frozen_of hb 3
  have hlt := lt_of_at hb
  have HF1 := Lib.hid ((HF.out _).trans hf)
  clear hf hb
  go_wp2
  refine bodyPost_ret (v := .tuple #[.agg #[.int .i64 10, .string ⟨#[]⟩, .int .i64 v, .int .i64 0], .int .i64 n, .int .i64 x]) (by simp [results, Tryz.results73, go_sem, *]) rfl ⟨?_, ?_⟩
  · rw [HZ.out]; rfl
  · repeat' first | exact HF1.out | (refine Fresh.setCell ?_ (Nat.le_refl _) _)
set_option maxRecDepth 100000 in
set_option maxHeartbeats 2000000 in
theorem first_text (r : List UInt8) (b : Nat) (w : World) (hs : r.length ≤ 90000) (hT : Tabs w) :
    Calls Tryz.prog 73 #[.string (bs (34 :: r)), .map (some b)] w fun e w' => e = wordIs (firstF (34 :: r)) ∧ Fresh w w' := by
  have hZ : firstF (34 :: r) = ⟨6, (unqF (34 :: r)).1, 0, (unqF (34 :: r)).2.1, (unqF (34 :: r)).2.2⟩ := by rw [firstF, if_pos rfl]
  have HU := Lib.hid (unquote_mark r (w.alloc (.cells #[.int .i64 6, .string ⟨#[]⟩, .int .i64 0, .int .i64 0] 89)) hs (hT.move ((Fresh.refl w).alloc _)))
  obtain ⟨p1, p2, _, p4⟩ := bs_cons 34 r
  have HZ := Lib.hid hZ
  have HF := Lib.hid (fun o => (Fresh.refl w).alloc o)
  generalize firstF (34 :: r) = Z at *
  generalize unqF (34 :: r) = U at *
  obtain ⟨t, n, x⟩ := U
  dsimp only at HZ
  have HU2 : Hid (Calls Tryz.prog 74 #[.string (bs (34 :: r))] (w.alloc (.cells #[.int .i64 6, .string ⟨#[]⟩, .int .i64 0, .int .i64 0] 89)) fun e w' => e = .returned (.tuple #[.string (bs t), .int .i64 (n : Int), .int .i64 x]) ∧ Fresh (w.alloc (.cells #[.int .i64 6, .string ⟨#[]⟩, .int .i64 0, .int .i64 0] 89)) w') := HU.out
  generalize bs (34 :: r) = s at *
  clear hZ hs hT HU
  have HZ2 : Hid (wordIs Z = .returned (.tuple #[.agg #[.int .i64 6, .string (bs t), .int .i64 0, .int .i64 0], .int .i64 (n : Int), .int .i64 x])) := by rw [Hid, HZ.out]; rfl
  generalize bs t = q at *
  go_enter Tryz.func73, Tryz.ntmps73
  go_wp2_with fail
  refine HU2.out.mono ?_
  rintro e w1 ⟨rfl, hf⟩
  have hb := box_four hf
  have c0 := cell_of_at hb (i := 0) rfl
  have c1 := cell_of_at hb (i := 1) rfl
  have c2 := cell_of_at hb (i := 2) rfl
  have c3 := cell_of_at hb (i := 3) rfl
  have f0 := frozen_of hb 0
  have f1 := frozen_of hb 1
  have f2 := frozen_of hb 2
  have f3 := frozen_of hb 3
  have hlt := lt_of_at hb
  have HF1 := Lib.hid ((HF.out _).trans hf)
  clear hf hb
  go_wp2
  refine bodyPost_ret (v := .tuple #[.agg #[.int .i64 6, .string q, .int .i64 0, .int .i64 0], .int .i64 n, .int .i64 x]) (by simp [results, Tryz.results73, go_sem, *]) rfl ⟨?_, ?_⟩
  · rw [HZ2.out]
  · repeat' first | exact HF1.out | (refine Fresh.setCell ?_ (Nat.le_refl _) _)
theorem first_all' (c : UInt8) (r : List UInt8) (b : Nat) (w : World) (hs : (c :: r).length ≤ 90000) (hT : Tabs w) (hr : RangeVar w) (hk : Known w b) :
    Calls Tryz.prog 73 #[.string (bs (c :: r)), .map (some b)] w fun e w' => e = wordIs (firstF (c :: r)) ∧ Fresh w w' := by
  by_cases h34 : c = 34
  · subst h34
    exact first_text r b w (by rw [List.length_cons] at hs; omega) hT
  · cases hst : startB c with
    | true => exact first_num c r b w (by omega) h34 hst hr
    | false => exact first_sign c r b w (by omega) h34 hst hk
end Go.Proofs.YthhdadfnkdjmkaaGreatDoor
namespace Go.Proofs.YthhdadfnkdjmkaaGreatDoor
open Go.ChangeShapes Go.WideShapes Go.ChangeAt Go.RowKit
attribute [local go_sem ↓] Go.wp_at_zero Go.wp_at_succ
variable {w : World}

/-- A word, with its place. -/
structure Tok where
  kind : Int
  text : List UInt8
  int : Int
  at_ : Nat
def tcell (t : Tok) : List Value := [.int .i64 t.kind, .string (bs t.text), .int .i64 t.int, .int .i64 (t.at_ : Int)]
def tcells (l : List Tok) : List Value := l.flatMap tcell
theorem tcells_snoc (l : List Tok) (t : Tok) : tcells (l ++ [t]) = tcells l ++ tcell t := by simp [tcells]
theorem tcell_one (t : Tok) : ∀ u ∈ tcell t, u.oneCell' = true := fun u hu => by
  simp only [tcell, List.mem_cons, List.not_mem_nil, or_false] at hu
  rcases hu with rfl | rfl | rfl | rfl <;> rfl
/-- A row of words that the call owns, from block B on. -/
def TBuf (w : World) (B : Nat) (v : Value) (l : List Tok) : Prop := w.ownsRow B 89 4 v l.length (tcells l)
theorem TBuf.lt {w : World} {B : Nat} {v : Value} {l : List Tok} (h : TBuf w B v l) : ∀ g, v.ownBlock = some g → B ≤ g ∧ g < w.heap.size := World.ownsRow.lt h
theorem TBuf.fresh {w w' : World} {B : Nat} {v : Value} {l : List Tok} (h : TBuf w B v l) (hf : Fresh w w') : TBuf w' B v l := by
  refine World.ownsRow.kept (row := none) h ⟨hf.os, hf.tape, hf.output, hf.size, fun k hk _ => hf.block k hk⟩ ?_
  rcases h' : v.ownBlock with _ | g
  · exact .inl rfl
  · exact .inr (by simp)
theorem TBuf.more {w' : World} {B : Nat} {v : Value} {l : List Tok} {t : Tok} (h : w'.ownsRow B 89 4 v (l.length + 1) (tcells l ++ tcell t)) : TBuf w' B v (l ++ [t]) := by
  unfold TBuf
  rw [tcells_snoc, List.length_append]
  exact h
theorem info34 : (Tryz.prog.info? 89).map (fun i => (i.zero, i.size, i.bytes)) = some (some (.agg #[.int .i64 0, .string ⟨#[]⟩, .int .i64 0, .int .i64 0]), 4, 40) := by kernel_rfl
theorem info34_parts : ∃ i, Tryz.prog.info? 89 = some i ∧ i.zero = some (.agg #[.int .i64 0, .string ⟨#[]⟩, .int .i64 0, .int .i64 0]) ∧ i.size = 4 ∧ i.bytes = 40 := by
  obtain ⟨i, h1, h2⟩ := Option.map_eq_some_iff.1 info34
  simp only [Prod.mk.injEq] at h2
  exact ⟨i, h1, h2.1, h2.2.1, h2.2.2⟩
/-- The words of a text from a place on, behind others: the words, the place, the code. -/
def lexA : Nat → List UInt8 → Nat → List Tok → List Tok × Nat × Int
  | 0, _, _, _ => ([], 0, 6)
  | f + 1, l, a, acc => match l.drop (cnt blankB l) with
    | [] => (acc ++ [⟨11, [], 0, a + cnt blankB l⟩], 0, 0)
    | c :: r => if (firstF (c :: r)).code ≠ 0 then ([], a + cnt blankB l, (firstF (c :: r)).code)
      else lexA f ((c :: r).drop (firstF (c :: r)).used) (a + cnt blankB l + (firstF (c :: r)).used) (acc ++ [⟨(firstF (c :: r)).kind, (firstF (c :: r)).text, (firstF (c :: r)).int, a + cnt blankB l⟩])
theorem lexA_end (f : Nat) (l : List UInt8) (a : Nat) (acc : List Tok) (h : l.drop (cnt blankB l) = []) : lexA (f + 1) l a acc = (acc ++ [⟨11, [], 0, a + cnt blankB l⟩], 0, 0) := by
  rw [lexA, h]
theorem lexA_step (f : Nat) (l : List UInt8) (a : Nat) (acc : List Tok) (c : UInt8) (r : List UInt8) (h : l.drop (cnt blankB l) = c :: r) : lexA (f + 1) l a acc = if (firstF (c :: r)).code ≠ 0 then ([], a + cnt blankB l, (firstF (c :: r)).code)
      else lexA f ((c :: r).drop (firstF (c :: r)).used) (a + cnt blankB l + (firstF (c :: r)).used) (acc ++ [⟨(firstF (c :: r)).kind, (firstF (c :: r)).text, (firstF (c :: r)).int, a + cnt blankB l⟩]) := by
  rw [lexA, h]
theorem loopF_len : ∀ (f : Nat) (l acc : List UInt8), (loopF f l acc).1 = 0 → (loopF f l acc).2.2.length < l.length
  | 0, l, acc, h => by simp [loopF] at h
  | f + 1, [], acc, h => by simp [loopF] at h
  | f + 1, c :: r, acc, h => by
    rw [loopF] at h ⊢
    by_cases hc : c = 34
    · rw [if_pos hc]; simp
    · rw [if_neg hc] at h ⊢
      have hl := chrF_len (c :: r)
      by_cases hx : (chrF (c :: r)).1 ≠ 0
      · rw [if_pos hx] at h; exact absurd h hx
      · rw [if_neg hx] at h ⊢
        have h1 := (hl (by simpa using hx)).2
        have h2 := loopF_len f _ _ h
        omega
theorem first_used (c : UInt8) (r : List UInt8) (h : (firstF (c :: r)).code = 0) : 1 ≤ (firstF (c :: r)).used ∧ (firstF (c :: r)).used ≤ (c :: r).length := by
  unfold firstF at h ⊢
  dsimp only at h ⊢
  by_cases h1 : c = 34
  · subst h1
    rw [if_pos rfl] at h ⊢
    dsimp only at h ⊢
    have hl := loopF_len (r.length + 1) r []
    unfold unqF at h ⊢
    dsimp only at h ⊢
    rw [if_neg (by simp)] at h ⊢
    by_cases a : (loopF (r.length + 1) r []).1 ≠ 0
    · rw [if_pos a] at h; exact absurd h a
    rw [if_neg a] at h ⊢
    by_cases b : 4096 < (loopF (r.length + 1) r []).2.1.length
    · rw [if_pos b] at h; simp at h
    rw [if_neg b]
    have := hl (by simpa using a)
    dsimp only
    rw [List.length_cons]
    omega
  rw [if_neg h1] at h ⊢
  by_cases h2 : startB c = true
  · rw [if_pos h2]
    have hi : innB c = true := by simp [innB, h2]
    have := cnt_le innB (c :: r)
    refine ⟨?_, this⟩
    show 1 ≤ cnt innB (c :: r)
    rw [cnt, if_pos hi]; omega
  rw [if_neg h2]
  by_cases h3 : letB c = true
  · rw [if_pos h3]
    refine ⟨?_, cnt_le letB (c :: r)⟩
    show 1 ≤ cnt letB (c :: r)
    rw [cnt, if_pos h3]; omega
  · rw [if_neg h3]
    simp
def LexIs (w : World) (x : List Tok × Nat × Int) (e : Ending) (w' : World) : Prop :=
  (if x.2.2 = 0 then ∃ B g cap, w.heap.size ≤ B ∧ e = .returned (.tuple #[.slice (some ⟨g, 0, none⟩) x.1.length cap, .int .i64 0, .int .i64 0]) ∧ TBuf w' B (.slice (some ⟨g, 0, none⟩) x.1.length cap) x.1
    else e = .returned (.tuple #[.slice none 0 0, .int .i64 (x.2.1 : Int), .int .i64 x.2.2])) ∧ Fresh w w'
theorem tnews (w : World) (t : Tok) : ∀ j u, (tcell t)[j]? = some u → (w.alloc (.cells #[.int .i64 t.kind, .string (bs t.text), .int .i64 t.int, .int .i64 (t.at_ : Int)] 89)).cell? ((⟨w.heap.size, 0, none⟩ : Addr).add j) = some u :=
  World.news_of_block (at_new w (.cells #[.int .i64 t.kind, .string (bs t.text), .int .i64 t.int, .int .i64 (t.at_ : Int)] 89))
set_option maxRecDepth 100000 in
set_option maxHeartbeats 4000000 in
theorem lex_any (l : List UInt8) (w : World) (hs : l.length ≤ 90000) (hT : Tabs w) (hr : RangeVar w) : Calls Tryz.prog 44 #[.string (bs l)] w (LexIs w (lexA (l.length + 1) l 0 [])) := by
  obtain ⟨i0, hi, hz0, hz1, hz2⟩ := info34_parts
  have HT := Lib.hid hT
  have HR := Lib.hid hr
  have hsz := bs_size l
  have HSZ := Lib.hid hsz
  have hsz2 : (bs l).size ≤ 90000 := by omega
  have HCUT : Hid (∀ a : Nat, (bs l).extract a (bs l).size = bs (l.drop a)) := fun a => bs_drop a l
  generalize bs l = s at *
  generalize hL : lexA (l.length + 1) l 0 [] = L at *
  have HL := Lib.hid hL
  have HSL := Lib.hid hs
  clear hT hr hsz hL hs
  go_enter Tryz.func44, Tryz.ntmps44
  go_wp2_with fail
  refine (signs_any w).mono ?_
  rintro e wk ⟨rfl, hkn, hfk⟩
  have HKN := Lib.hid hkn
  have HFK := Lib.hid hfk
  clear hkn hfk
  obtain ⟨kb, hkb⟩ : ∃ kb, kb = w.heap.size := ⟨_, rfl⟩
  rw [← hkb] at HKN ⊢
  have HKB := Lib.hid hkb
  clear hkb
  go_wp2
  go_loopw [2, 3] (fun a2 a3 wr => ∃ (a f : Nat) (acc : List Tok) (v : Value), a ≤ 90000 ∧ a3 = .int .i64 a ∧ v = a2 ∧ Hid (a ≤ l.length ∧ l.length - a < f ∧ acc.length ≤ a) ∧ Hid (L = lexA f (l.drop a) a acc) ∧ Hid (TBuf wr wk.heap.size v acc) ∧ Hid (Fresh wk wr)) (fun _ a3 _ => s.size - (intOf a3).toNat)
  case atStart => exact ⟨0, l.length + 1, [], .slice none 0 0, by omega, rfl, rfl, ⟨by omega, by omega, by simp⟩, HL.out.symm, World.ownsRow_nil _ _ _ _, Fresh.refl _⟩
  case round =>
    obtain ⟨a, f, acc, v, ha, rfl, rfl, HA, HE, HB, HF⟩ := hrel
    obtain ⟨f, rfl⟩ : ∃ g, f = g + 1 := ⟨f - 1, by have := HA.out.2.1; omega⟩
    have q0 := HCUT.out a
    have k0 : a ≤ s.size := by rw [HSZ.out]; exact HA.out.1
    have hcnt := cnt_le blankB (l.drop a)
    have hdl : (l.drop a).length = l.length - a := by simp
    have hm1 : a + cnt blankB (l.drop a) ≤ l.length := by have := HA.out.1; omega
    have HAB := Lib.hid (fun W => ahead_blank (bs (l.drop a)) W (by rw [bs_size]; have := HSL.out; omega))
    rw [bs_toList] at HAB
    have hdd : (l.drop a).drop (cnt blankB (l.drop a)) = l.drop (a + cnt blankB (l.drop a)) := by rw [List.drop_drop]
    have hend := lexA_end f (l.drop a) a acc
    have hstep := lexA_step f (l.drop a) a acc
    rw [hdd] at hend hstep
    generalize cnt blankB (l.drop a) = n at *
    generalize bs (l.drop a) = r0 at *
    obtain ⟨m, hm⟩ : ∃ m : Nat, m = a + n := ⟨_, rfl⟩
    rw [← hm] at hend hstep hm1
    have hmi : (a : Int) + (n : Int) = (m : Int) := by omega
    have hn9 : n ≤ 90000 := by have := HSL.out; omega
    have hm9 : m ≤ 90000 := by have := HSL.out; omega
    have q1 := HCUT.out m
    have k1 : m ≤ s.size := by rw [HSZ.out]; exact hm1
    have HM1 := Lib.hid hm1
    have HMA : Hid (a ≤ m) := by rw [Hid, hm]; omega
    clear hcnt hdl hdd hm hm1
    rcases hd : l.drop m with _ | ⟨c, r⟩
    · have HX : Hid (L = (acc ++ [⟨11, [], 0, m⟩], 0, 0)) := by rw [Hid, HE.out]; exact hend hd
      have e0 : ((m : Int) == (s.size : Int)) = true := by
        have := congrArg List.length hd
        simp at this
        have h2 := HM1.out
        rw [beq_iff_eq, HSZ.out]; omega
      clear hend hstep q1
      have HCELL := Lib.hid (tnews wr ⟨11, [], 0, m⟩)
      have HAC : Hid (acc.length ≤ 90000) := Nat.le_trans HA.out.2.2 ha
      have hac := HAC.out
      go_wp2_with fail
      refine (HAB.out _).mono ?_
      rintro e w' ⟨rfl, rfl⟩
      go_wp2_with (at_builtin; refine Hid.out ?_)
      refine Lib.hid ?_
      refine wpList_append_lies _ rfl _ _ 84 rfl wk.heap.size 89 i0 (.agg #[.int .i64 0, .string ⟨#[]⟩, .int .i64 0, .int .i64 0]) 4 40 Tryz.underlying84 hi hz0 hz1 hz2 rfl (by decide) v acc.length (tcells acc) rfl (World.ownsRow.alloc HB.out _) ⟨wr.heap.size, 0, none⟩ 1 1 (tcell ⟨11, [], 0, m⟩) rfl rfl HCELL.out (tcell_one _) (by decide) (by unfold maxLen; omega) (by omega) (by rw [World.size_alloc]; have := HF.out.size; omega) (wr.heap.size + 1) (by simp) ?_
      intro g cap w2 hown hgrow hat hlt
      have HT2 := Lib.hid (TBuf.more hown)
      have HF2 := Lib.hid ((HF.out.alloc (.cells #[.int .i64 11, .string (bs []), .int .i64 0, .int .i64 m] 89)).grown hgrow (fun g e => (HB.out.lt g e).1))
      clear hown hgrow hat hlt
      go_wp2
      refine bodyPost_ret (v := .tuple #[.slice (some ⟨g, 0, none⟩) (acc.length + 1) cap, .int .i64 0, .int .i64 0]) (by simp [results, Tryz.results44, go_sem]) rfl ⟨?_, HFK.out.trans HF2.out⟩
      rw [HX.out, if_pos rfl]
      refine ⟨wk.heap.size, g, cap, HFK.out.size, ?_, ?_⟩
      · rw [List.length_append]; rfl
      · have e1 : (acc ++ [(⟨11, [], 0, m⟩ : Tok)]).length = acc.length + 1 := by rw [List.length_append]; rfl
        rw [e1]
        exact HT2.out
    · have hS := hstep c r hd
      have hused := first_used c r
      have hcl : (c :: r).length = l.length - m := by rw [← hd]; simp
      have HFI := Lib.hid (fun W h1 h2 h3 => first_all' c r kb W (by have := HSL.out; omega) h1 h2 h3)
      rw [hd] at q1
      have e0 : ((m : Int) == (s.size : Int)) = false := by
        have h2 := HM1.out
        rw [beq_eq_false_iff_ne, HSZ.out]; simp only [List.length_cons] at hcl; omega
      have hdr : ∀ u : Nat, (c :: r).drop u = l.drop (m + u) := fun u => by rw [← hd, List.drop_drop]
      clear hend hstep hd
      generalize bs (c :: r) = r1 at *
      generalize firstF (c :: r) = X at *
      obtain ⟨xk, xt, xn, xu, xc⟩ := X
      dsimp only at hS hused
      have HFI2 : Hid (∀ W, Tabs W → RangeVar W → Known W kb → Calls Tryz.prog 73 #[.string r1, .map (some kb)] W fun e w' => e = .returned (.tuple #[.agg #[.int .i64 xk, .string (bs xt), .int .i64 xn, .int .i64 0], .int .i64 (xu : Int), .int .i64 xc]) ∧ Fresh W w') := HFI.out
      clear HFI
      by_cases hx : xc = 0
      · subst hx
        rw [if_neg (by simp), hdr] at hS
        have hu := hused rfl
        have HX : Hid (L = lexA f (l.drop (m + xu)) (m + xu) (acc ++ [⟨xk, xt, xn, m⟩])) := by rw [Hid, HE.out]; exact hS
        obtain ⟨m2, hm2⟩ : ∃ m2 : Nat, m2 = m + xu := ⟨_, rfl⟩
        rw [← hm2] at HX
        have hmi2 : (m : Int) + (xu : Int) = (m2 : Int) := by omega
        have HM2 : Hid (m2 ≤ l.length ∧ m < m2) := by rw [Hid, hm2]; have := HM1.out; omega
        have hm29 : m2 ≤ 90000 := by have := HM2.out.1; have := HSL.out; omega
        have hxu : xu ≤ 90000 := by omega
        have hac : acc.length ≤ 90000 := by have := HA.out.2.2; omega
        clear hS hused hu hm2 hcl hdr
        go_wp2_with fail
        refine (HAB.out _).mono ?_
        rintro e w' ⟨rfl, rfl⟩
        go_wp2_with fail
        refine (HFI2.out _ (HT.out.move (HFK.out.trans HF.out)) (HR.out.move (HFK.out.trans HF.out)) (HKN.out.fresh HF.out)).mono ?_
        rintro e w1 ⟨rfl, hf⟩
        have HF1 := Lib.hid (HF.out.trans hf)
        have HB1 := Lib.hid (HB.out.fresh hf)
        clear hf
        have hcell := tnews (w1.alloc (.cells #[.int .i64 xk, .string (bs xt), .int .i64 xn, .int .i64 (m : Int)] 89)) ⟨xk, xt, xn, m⟩
        rw [World.size_alloc] at hcell
        have HCELL := Lib.hid hcell
        clear hcell
        go_wp2_with (at_builtin; refine Hid.out ?_)
        refine Lib.hid ?_
        refine wpList_append_lies _ rfl _ _ 84 rfl wk.heap.size 89 i0 (.agg #[.int .i64 0, .string ⟨#[]⟩, .int .i64 0, .int .i64 0]) 4 40 Tryz.underlying84 hi hz0 hz1 hz2 rfl (by decide) v acc.length (tcells acc) rfl (World.ownsRow.alloc (World.ownsRow.alloc HB1.out _) _) ⟨w1.heap.size + 1, 0, none⟩ 1 1 (tcell ⟨xk, xt, xn, m⟩) rfl rfl HCELL.out (tcell_one _) (by decide) (by unfold maxLen; omega) (by omega) (by rw [World.size_alloc, World.size_alloc]; have := HF1.out.size; omega) (w1.heap.size + 1 + 1) (by simp) ?_
        intro g cap w2 hown hgrow hat hlt
        have HT2 := Lib.hid (TBuf.more hown)
        have HF2 := Lib.hid (((HF1.out.alloc (.cells #[.int .i64 xk, .string (bs xt), .int .i64 xn, .int .i64 m] 89)).alloc (.cells #[.int .i64 xk, .string (bs xt), .int .i64 xn, .int .i64 m] 89)).grown hgrow (fun g e => (HB1.out.lt g e).1))
        clear hown hgrow hat hlt
        go_wp2
        go_roundw
        case rel => exact ⟨m2, f, acc ++ [Tok.mk xk xt xn m], _, hm29, rfl, rfl, ⟨HM2.out.1, by have h1 := HA.out; have h2 := HM2.out; have h3 := HMA.out; omega, by rw [List.length_append]; have h1 := HA.out.2.2; have h2 := HM2.out.2; have h3 := HMA.out; simp; omega⟩, HX.out, HT2.out, HF2.out⟩
        case measure => rw [HSZ.out]; simp [intOf]; have h2 := HM2.out; have h3 := HMA.out; omega
      · rw [if_pos hx] at hS
        have HX : Hid (L = ([], m, xc)) := by rw [Hid, HE.out]; exact hS
        have e1 : (xc != 0) = true := by simpa using hx
        have HY := Lib.hid hx
        clear hS hused hcl hdr hx
        go_wp2_with fail
        refine (HAB.out _).mono ?_
        rintro e w' ⟨rfl, rfl⟩
        go_wp2_with fail
        refine (HFI2.out _ (HT.out.move (HFK.out.trans HF.out)) (HR.out.move (HFK.out.trans HF.out)) (HKN.out.fresh HF.out)).mono ?_
        rintro e w1 ⟨rfl, hf⟩
        have HF1 := Lib.hid ((HFK.out.trans HF.out).trans hf)
        clear hf
        go_wp2
        refine bodyPost_ret (v := .tuple #[.slice none 0 0, .int .i64 m, .int .i64 xc]) (by simp [results, Tryz.results44, go_sem]) rfl ⟨?_, HF1.out.alloc _⟩
        rw [HX.out, if_neg HY.out]
end Go.Proofs.YthhdadfnkdjmkaaGreatDoor
namespace Go.Proofs.YthhdadfnkdjmkaaGreatDoor
open Go.ChangeShapes Go.WideShapes Go.ChangeAt Go.RowKit
attribute [local go_sem ↓] Go.wp_at_zero Go.wp_at_succ
variable {w : World}

set_option maxRecDepth 100000 in
set_option maxHeartbeats 4000000 in
theorem appq_34 (B : Nat) (v : Value) (l : List UInt8) (w : World) (h : Rd w B v l) : Calls Tryz.prog 102 #[v, .int .u8 34] w (Put w B l [92, 34]) := by
  obtain ⟨i0, hi, hz0, hz1, hz2⟩ := info_parts info5
  have H := Lib.hid h
  have hx := Lib.hid (show Lib.indexByte (⟨#[8, 12, 10, 13, 9]⟩ : ByteArray).data.toList (34 : Int).toNat.toUInt8 = -1 by decide)
  clear h
  go_enter Tryz.func102, Tryz.ntmps102
  go_wp2_with (first
    | (go_at_call 65; refine (idx_any _ _ _ _ hx.out).mono ?_; rintro e w' ⟨rfl, rfl⟩)
    | (at_builtin; refine wpList_append_lies _ rfl _ _ 145 rfl B 5 i0 (.int .u8 0) 1 1 Tryz.underlying145 hi hz0 hz1 hz2 rfl (by decide) v l.length (vals l) rfl (H.out.buf.alloc _) ⟨w.heap.size, 0, none⟩ 2 2 (vals [92, 34]) rfl rfl (news_at w _ _ rfl) (vals_one _) (by decide) (H.out.m1 (by decide)) (H.out.m2 (by decide)) H.out.m3 (w.heap.size + 1) (by simp) ?_; intro g cap w1 hown hgrow hat hlt; have HP := Lib.hid (put_of H.out.buf H.out.low rfl hown hgrow); clear hown hgrow hat hlt))
  go_ret
  exact HP.out
set_option maxRecDepth 100000 in
set_option maxHeartbeats 4000000 in
theorem appq_92 (B : Nat) (v : Value) (l : List UInt8) (w : World) (h : Rd w B v l) : Calls Tryz.prog 102 #[v, .int .u8 92] w (Put w B l [92, 92]) := by
  obtain ⟨i0, hi, hz0, hz1, hz2⟩ := info_parts info5
  have H := Lib.hid h
  have hx := Lib.hid (show Lib.indexByte (⟨#[8, 12, 10, 13, 9]⟩ : ByteArray).data.toList (92 : Int).toNat.toUInt8 = -1 by decide)
  clear h
  go_enter Tryz.func102, Tryz.ntmps102
  go_wp2_with (first
    | (go_at_call 65; refine (idx_any _ _ _ _ hx.out).mono ?_; rintro e w' ⟨rfl, rfl⟩)
    | (at_builtin; refine wpList_append_lies _ rfl _ _ 145 rfl B 5 i0 (.int .u8 0) 1 1 Tryz.underlying145 hi hz0 hz1 hz2 rfl (by decide) v l.length (vals l) rfl (H.out.buf.alloc _) ⟨w.heap.size, 0, none⟩ 2 2 (vals [92, 92]) rfl rfl (news_at w _ _ rfl) (vals_one _) (by decide) (H.out.m1 (by decide)) (H.out.m2 (by decide)) H.out.m3 (w.heap.size + 1) (by simp) ?_; intro g cap w1 hown hgrow hat hlt; have HP := Lib.hid (put_of H.out.buf H.out.low rfl hown hgrow); clear hown hgrow hat hlt))
  go_ret
  exact HP.out
theorem idx_none (c : UInt8) (h : 32 ≤ c.toNat) : Lib.indexByte (⟨#[8, 12, 10, 13, 9]⟩ : ByteArray).data.toList (c.toNat : Int).toNat.toUInt8 = -1 := by
  have e : (c.toNat : Int).toNat.toUInt8 = c := by simp
  rw [e]
  have n : ∀ d : UInt8, d.toNat < 32 → (d == c) = false := fun d hd => by
    rw [beq_eq_false_iff_ne]; intro e; subst e; omega
  show Lib.indexByte [8, 12, 10, 13, 9] c = -1
  simp [Lib.indexByte, n 8 (by decide), n 12 (by decide), n 10 (by decide), n 13 (by decide), n 9 (by decide)]
set_option maxRecDepth 100000 in
set_option maxHeartbeats 4000000 in
theorem appq_plain (c : UInt8) (h0 : 32 ≤ c.toNat) (h1 : c.toNat ≠ 34) (h2 : c.toNat ≠ 92) (B : Nat) (v : Value) (l : List UInt8) (w : World) (h : Rd w B v l) : Calls Tryz.prog 102 #[v, .int .u8 (c.toNat : Int)] w (Put w B l [c]) := by
  obtain ⟨i0, hi, hz0, hz1, hz2⟩ := info_parts info5
  have H := Lib.hid h
  have hx := Lib.hid (idx_none c h0)
  have e1 : ((c.toNat : Int) == 34) = false := by rw [beq_eq_false_iff_ne]; omega
  have e2 : ((c.toNat : Int) == 92) = false := by rw [beq_eq_false_iff_ne]; omega
  have e3 : ¬ (c.toNat : Int) < 32 := by omega
  clear h h0 h1 h2
  go_enter Tryz.func102, Tryz.ntmps102
  go_wp2_with (first
    | (go_at_call 65; refine (idx_any _ _ _ _ hx.out).mono ?_; rintro e w' ⟨rfl, rfl⟩)
    | (at_builtin; refine wpList_append_lies _ rfl _ _ 145 rfl B 5 i0 (.int .u8 0) 1 1 Tryz.underlying145 hi hz0 hz1 hz2 rfl (by decide) v l.length (vals l) rfl (H.out.buf.alloc _) ⟨w.heap.size, 0, none⟩ 1 1 (vals [c]) rfl rfl (news_at w _ _ rfl) (vals_one _) (by decide) (H.out.m1 (by decide)) (H.out.m2 (by decide)) H.out.m3 (w.heap.size + 1) (by simp) ?_; intro g cap w1 hown hgrow hat hlt; have HP := Lib.hid (put_of H.out.buf H.out.low rfl hown hgrow); clear hown hgrow hat hlt))
  go_ret
  exact HP.out
theorem appq_any (c : UInt8) (B : Nat) (v : Value) (l : List UInt8) (w : World) (h : Rd w B v l) : Calls Tryz.prog 102 #[v, .int .u8 (c.toNat : Int)] w (Put w B l (qB c)) := by
  by_cases h0 : 32 ≤ c.toNat
  · by_cases h1 : c.toNat = 34
    · obtain rfl := c_of h1
      exact appq_34 B v l w h
    by_cases h2 : c.toNat = 92
    · obtain rfl := c_of h2
      exact appq_92 B v l w h
    have e : qB c = [c] := by
      have n : ∀ d : UInt8, d.toNat < 32 → ¬ c = d := fun d hd e => by subst e; omega
      rw [qB, if_neg (by rintro (rfl | rfl); exact h1 rfl; exact h2 rfl), if_neg (n 10 (by decide)), if_neg (n 13 (by decide)), if_neg (n 9 (by decide)), if_neg (n 8 (by decide)), if_neg (n 12 (by decide)), if_neg (by omega)]
    rw [e]
    exact appq_plain c h0 h1 h2 B v l w h
  · have hn : c.toNat = 0 ∨ c.toNat = 1 ∨ c.toNat = 2 ∨ c.toNat = 3 ∨ c.toNat = 4 ∨ c.toNat = 5 ∨ c.toNat = 6 ∨ c.toNat = 7 ∨ c.toNat = 8 ∨ c.toNat = 9 ∨ c.toNat = 10 ∨ c.toNat = 11 ∨ c.toNat = 12 ∨ c.toNat = 13 ∨ c.toNat = 14 ∨ c.toNat = 15 ∨ c.toNat = 16 ∨ c.toNat = 17 ∨ c.toNat = 18 ∨ c.toNat = 19 ∨ c.toNat = 20 ∨ c.toNat = 21 ∨ c.toNat = 22 ∨ c.toNat = 23 ∨ c.toNat = 24 ∨ c.toNat = 25 ∨ c.toNat = 26 ∨ c.toNat = 27 ∨ c.toNat = 28 ∨ c.toNat = 29 ∨ c.toNat = 30 ∨ c.toNat = 31 := by omega
    rcases hn with h1 | h1 | h1 | h1 | h1 | h1 | h1 | h1 | h1 | h1 | h1 | h1 | h1 | h1 | h1 | h1 | h1 | h1 | h1 | h1 | h1 | h1 | h1 | h1 | h1 | h1 | h1 | h1 | h1 | h1 | h1 | h1
    all_goals obtain rfl := c_of h1
    · exact appq_0 B v l w h
    · exact appq_1 B v l w h
    · exact appq_2 B v l w h
    · exact appq_3 B v l w h
    · exact appq_4 B v l w h
    · exact appq_5 B v l w h
    · exact appq_6 B v l w h
    · exact appq_7 B v l w h
    · exact appq_8 B v l w h
    · exact appq_9 B v l w h
    · exact appq_10 B v l w h
    · exact appq_11 B v l w h
    · exact appq_12 B v l w h
    · exact appq_13 B v l w h
    · exact appq_14 B v l w h
    · exact appq_15 B v l w h
    · exact appq_16 B v l w h
    · exact appq_17 B v l w h
    · exact appq_18 B v l w h
    · exact appq_19 B v l w h
    · exact appq_20 B v l w h
    · exact appq_21 B v l w h
    · exact appq_22 B v l w h
    · exact appq_23 B v l w h
    · exact appq_24 B v l w h
    · exact appq_25 B v l w h
    · exact appq_26 B v l w h
    · exact appq_27 B v l w h
    · exact appq_28 B v l w h
    · exact appq_29 B v l w h
    · exact appq_30 B v l w h
    · exact appq_31 B v l w h
set_option maxRecDepth 100000 in
set_option maxHeartbeats 4000000 in
/-- Package utf's Quote. -/
theorem quote_any (s : ByteArray) (w : World) (hs : s.size ≤ 6000) : Calls Tryz.prog 75 #[.string s] w fun e w' => e = .returned (.string ⟨(quoted s.data.toList).toArray⟩) ∧ Fresh w w' := by
  obtain ⟨i0, hi, hz0, hz1, hz2⟩ := info_parts info5
  have hmk : (Instr.makeSlice 145 (.int .i64 0) (.int .i64 ((s.size : Int) + 2))).run Tryz.prog w = .ok (.slice (some ⟨w.heap.size, 0, none⟩) 0 (s.size + 2)) (w.alloc (.cells (madeCells #[.int .u8 0] (s.size + 2)) 5)) := by
    have := run_make (P := Tryz.prog) w 145 5 i0 (.int .u8 0) Tryz.underlying145 hi hz0 .i64 .i64 0 ((s.size : Int) + 2) (by omega) (by omega) (by rw [hz2]; omega) (by omega)
    rw [hz1, Nat.mul_one, show ((s.size : Int) + 2).toNat = s.size + 2 by omega] at this
    exact this
  have HM : Hid (Buf (w.alloc (.cells (madeCells #[.int .u8 0] (s.size + 2)) 5)) w.heap.size (.slice (some ⟨w.heap.size, 0, none⟩) 0 (s.size + 2)) []) :=
    World.ownsRow_made w _ (s.size + 2) (Nat.le_refl _) (by unfold maxLen; omega) (by rw [size_madeCells, Nat.mul_one])
  go_enter Tryz.func75, Tryz.ntmps75
  go_wp2_with (at_builtin; refine wpList_append_lies _ rfl _ _ 145 rfl w.heap.size 5 i0 (.int .u8 0) 1 1 Tryz.underlying145 hi hz0 hz1 hz2 rfl (by decide) (.slice (some ⟨w.heap.size, 0, none⟩) 0 (s.size + 2)) 0 (vals []) rfl (HM.out.alloc _) ⟨w.heap.size + 1, 0, none⟩ 1 1 (vals [34]) rfl rfl (by have := news_at (w.alloc (.cells (madeCells #[.int .u8 0] (s.size + 2)) 5)) #[.int .u8 34] [34] rfl; rw [World.size_alloc] at this; exact this) (vals_one _) (by decide) (by unfold maxLen; omega) (by omega) (by simp; omega) (w.heap.size + 1 + 1) (by simp) ?_; intro g cap w1 hown hgrow hat hlt; have HB1 := Lib.hid (show Buf w1 w.heap.size (.slice (some ⟨g, 0, none⟩) 1 cap) [34] from Buf.more (l := []) hown rfl); have HF1 := Lib.hid ((((Fresh.refl w).alloc _).alloc _).below (Below.grown (Below.refl w.heap.size _) hgrow (by simp; omega) (fun k e => by cases e; exact Nat.le_refl _)) (Nat.le_refl _)); clear hown hgrow hat hlt)
  clear hmk HM
  go_loopw [3, 13] (fun a3 a13 wr => ∃ g n cap k : Nat, k ≤ s.size ∧ a3 = .slice (some ⟨g, 0, none⟩) n cap ∧ a13 = .int .i64 k ∧ Hid (Buf wr w.heap.size (.slice (some ⟨g, 0, none⟩) n cap) (34 :: qL (s.data.toList.take k))) ∧ Hid (Fresh w wr)) (fun _ a13 _ => s.size - (intOf a13).toNat)
  case atStart => exact ⟨_, _, _, 0, Nat.zero_le _, rfl, rfl, HB1.out, HF1.out⟩
  case round =>
    obtain ⟨g, n, cap, k, hk, rfl, rfl, HB, HF⟩ := hrel
    clear HB1 HF1
    have HL : Hid ((34 :: qL (s.data.toList.take k)).length ≤ 60000) := by
      have h1 := qL_len (s.data.toList.take k)
      have h2 : (s.data.toList.take k).length ≤ k := List.length_take_le _ _
      rw [Hid, List.length_cons]; omega
    have HRD : Hid (Rd wr w.heap.size (.slice (some ⟨g, 0, none⟩) n cap) (34 :: qL (s.data.toList.take k))) := ⟨HB.out, HF.out.size, by have := HL.out; omega⟩
    by_cases hlt : k < s.size
    · have HT := Lib.hid (take_snoc s k hlt)
      go_wp2_with fail
      refine (appq_any _ w.heap.size _ _ _ HRD.out).mono ?_
      rintro e w2 ⟨g2, cap2, he, hb2, hf2⟩
      have hb3 : Buf w2 w.heap.size (.slice (some ⟨g2, 0, none⟩) ((34 :: qL (s.data.toList.take k)).length + (qB s[k]).length) cap2) (34 :: qL (s.data.toList.take (k + 1))) := by
        rw [HT.out, qL_snoc]; exact hb2
      clear hb2
      generalize (34 :: qL (s.data.toList.take k)).length + (qB s[k]).length = n2 at he hb3
      subst he
      have HB3 := Lib.hid hb3
      have HF3 := Lib.hid (HF.out.below hf2 (Nat.le_refl _))
      clear hb3 hf2
      go_wp2
      go_roundw
      case rel => exact ⟨g2, n2, cap2, k + 1, by omega, rfl, by go_num, HB3.out, HF3.out⟩
      case measure => simp [intOf]; omega
    · obtain rfl : k = s.size := by omega
      have HQ : Hid ((34 :: qL (s.data.toList.take s.size)) ++ [34] = quoted s.data.toList) := by
        rw [Hid, List.take_of_length_le (by simp), quoted]; rfl
      have hw1 := HF.out.size
      have HN : Hid (n = (34 :: qL (s.data.toList.take s.size)).length) := (Buf.text HB.out).1
      generalize 34 :: qL (s.data.toList.take s.size) = L at *
      obtain rfl : n = L.length := HN.out
      have hL := HL.out
      go_wp2_with (at_builtin; refine wpList_append_lies _ rfl _ _ 145 rfl w.heap.size 5 i0 (.int .u8 0) 1 1 Tryz.underlying145 hi hz0 hz1 hz2 rfl (by decide) (.slice (some ⟨g, 0, none⟩) L.length cap) L.length (vals L) rfl (HB.out.alloc _) ⟨wr.heap.size, 0, none⟩ 1 1 (vals [34]) rfl rfl (news_at wr _ _ rfl) (vals_one _) (by decide) (HRD.out.m1 (by decide)) (by omega) HRD.out.m3 (wr.heap.size + 1) (by simp) ?_; intro g2 cap2 w2 hown hgrow hat hlt2; have HB2 := Lib.hid (show Buf w2 w.heap.size (.slice (some ⟨g2, 0, none⟩) (L.length + 1) cap2) (L ++ [34]) from Buf.more hown rfl); have HF2 := Lib.hid ((HF.out.alloc _).below (Below.grown (Below.refl w.heap.size _) hgrow HRD.out.m3 (fun k e => (HB.out.lt k e).1)) (Nat.le_refl _)); clear hown hgrow hat hlt2; have hcv := (Buf.text HB2.out).2)
      go_ret
      exact ⟨ret_string (by rw [HQ.out]), HF2.out⟩
theorem hexB_lo (n : Nat) (h : n < 10) : ((hexB n).toNat : Int) = 48 + n := by
  unfold hexB
  rw [if_pos h, UInt8.toNat_ofNat']
  omega
theorem hexB_hi (n : Nat) (h : 10 ≤ n) (h2 : n < 16) : ((hexB n).toNat : Int) = 87 + n := by
  unfold hexB
  rw [if_neg (by omega), UInt8.toNat_ofNat']
  omega
end Go.Proofs.YthhdadfnkdjmkaaGreatDoor

/-
  Package jlex: the words that are always written alike.
-/
import Derived.Test.YtajmhllldocpjaaDoorBase
import Derived.Maps.Own
import Derived.Maps.OwnOps
import Derived.Maps.OwnSet
namespace Go.Proofs.YtajmhllldocpjaaDoor
open Go.ChangeShapes Go.WideShapes Go.ChangeAt Go.RowKit
variable {w : World}

theorem Fresh.grown {a b c : World} (h : Fresh a b) {row : Option Nat} (hg : b.grownBy c row) (hr : ∀ g, row = some g → a.heap.size ≤ g) : Fresh a c := Below.grown h hg h.size hr
def skey (s : ByteArray) : Lit := .string s.data.toList
theorem skey_inj {a b : ByteArray} (h : skey a = skey b) : a = b := by
  unfold skey at h
  injection h with h
  exact ByteArray.ext (Array.ext' h)
theorem skey_of (s : ByteArray) (hs : s.size ≤ 9000000) : keyOf Tryd.prog 9 (.string s) = some (skey s) := Go.WideMaps.keyOf_string_mk Tryd.underlying9 (by unfold maxLen; omega)
theorem slaw9 : Maps.Keyed Tryd.prog 9 := Maps.string_keyed Tryd.underlying9
theorem szero (w : World) : (zeroValue 32).run Tryd.prog w = .ok (.int .i64 0) w := by kernel_rfl
def kindR : Value → Option (DataW Unit × List MemPlace)
  | .int .i64 n => some (.lit (.int .i64 n), [])
  | _ => none
theorem kindR_inv {v : Value} {y : DataW Unit × List MemPlace} (h : kindR v = some y) : ∃ n, v = .int .i64 n ∧ y = (.lit (.int .i64 n), []) := by
  unfold kindR at h
  split at h
  · exact ⟨_, rfl, by cases h; rfl⟩
  · cases h
/-- What stands beside a text in a list, the newest first. -/
def lk : List (ByteArray × Int) → ByteArray → Option Int
  | [], _ => none
  | (k, n) :: es, s => if s = k then some n else lk es s
/-- A map of such a list, made since w0. -/
def SignW (w0 w : World) (es : List (ByteArray × Int)) : Prop :=
  (∃ D : DataW Unit, w.ownsMap Tryd.prog 9 kindR w0.heap.size es.length D ∧ ∀ s : ByteArray, D.atKey (skey s) (.lit (.int .i64 0)) = .lit (.int .i64 ((lk es s).getD 0)) ∧ Maps.has D (skey s) = (lk es s).isSome) ∧ Fresh w0 w
theorem sign_made (w : World) : SignW w (w.alloc (.map #[] 0)) [] := ⟨⟨_, World.ownsMap_made w _ _ _, fun _ => ⟨rfl, rfl⟩⟩, (Fresh.refl w).alloc _⟩
theorem wpList_insert_sign {w0 w : World} {ops : Array Oper} {rest : List Oper} {o : Oper} {a : Act} {Q : Exit → Act → World → Prop} (hg : o.guard = none) (m x v : Operand) (hop : o.op = Op.insert 46 m x v)
    (es : List (ByteArray × Int)) (hm : a.eval m = .map (some w0.heap.size)) (hs : Hid (SignW w0 w es)) (hl : es.length < 1000) (nm : ByteArray) (k : Int) (hx : a.eval x = .string nm) (hv : a.eval v = .int .i64 k) (hn : nm.size ≤ 9000000)
    (hK : ∀ w', Hid (SignW w0 w' ((nm, k) :: es)) → wpList Tryd.prog ops Q rest (a.put o.dst undef) w') : wpList Tryd.prog ops Q (o :: rest) a w := by
  refine wpList_plain hg fun K' hK' => ?_
  obtain ⟨⟨D, hown, hD⟩, hf⟩ := hs.out
  obtain ⟨w', hrun, r1, r2⟩ := hown.update slaw9 Tryd.underlying46 (by unfold maxLen; omega) (skey_of nm hn) (show kindR (.int .i64 k) = some (.lit (.int .i64 k), []) from rfl)
  unfold Oper.wp
  simp [execOp, hop, hm, hx, hv, hrun, Result.andThen]
  refine hK' _ _ (hK w' ⟨⟨_, r1, fun s => ?_⟩, Fresh.grown hf r2 (fun g e => by injection e with e; omega)⟩)
  have hk : WideAt.IsKeyLit (skey nm) := slaw9.key (v := .string nm) (l := skey nm) (skey_of nm hn)
  by_cases h : s = nm
  · subst h
    rw [Maps.atKey_put_same hown.isMap hk, Maps.has_put_same hown.isMap hk, lk, if_pos rfl]
    exact ⟨rfl, rfl⟩
  · rw [Maps.atKey_put_other (fun e => h (skey_inj e)), Maps.has_put_other (fun e => h (skey_inj e)), lk, if_neg h]
    exact hD s
def signL : List (ByteArray × Int) := [(⟨#[102, 97, 108, 115, 101]⟩, 9), (⟨#[116, 114, 117, 101]⟩, 8), (⟨#[110, 117, 108, 108]⟩, 7), (⟨#[44]⟩, 5), (⟨#[58]⟩, 4), (⟨#[93]⟩, 3), (⟨#[91]⟩, 2), (⟨#[125]⟩, 1), (⟨#[123]⟩, 0)]
/-- The Kind of a word that is always written alike. -/
def signK (s : ByteArray) : Option Int := lk signL s
/-- Block b is the map of these. -/
def Known (w : World) (b : Nat) : Prop := ∃ D : DataW Unit, w.ownsMap Tryd.prog 9 kindR b 9 D ∧ ∀ s : ByteArray, D.atKey (skey s) (.lit (.int .i64 0)) = .lit (.int .i64 ((signK s).getD 0)) ∧ Maps.has D (skey s) = (signK s).isSome
theorem Known.lt {w : World} {b : Nat} (h : Known w b) : b < w.heap.size := by obtain ⟨D, h1, _⟩ := h; exact h1.lt
theorem Known.move {w w' : World} {b : Nat} (h : Known w b) (hb : w'.heap[b]? = w.heap[b]?) : Known w' b := by
  obtain ⟨D, ⟨es, clock, h1, r⟩, h2⟩ := h
  exact ⟨D, ⟨es, clock, hb.trans h1, r⟩, h2⟩
theorem Known.fresh {w w' : World} {b : Nat} (h : Known w b) (f : Fresh w w') : Known w' b := h.move (f.block b h.lt)
theorem Known.look {w : World} {b : Nat} (h : Known w b) (s : ByteArray) (hs : s.size ≤ 9000000) : (Instr.lookup 46 (.map (some b)) (.string s) true).run Tryd.prog w = .ok (.tuple #[.int .i64 ((signK s).getD 0), .bool (signK s).isSome]) w := by
  obtain ⟨D, h1, h2⟩ := h
  obtain ⟨v, ps, hr, hv⟩ := h1.look_ok slaw9 Tryd.underlying46 (szero w) (zd := .lit (.int .i64 0)) (zp := []) rfl (skey_of s hs)
  obtain ⟨n, rfl, e⟩ := kindR_inv hv
  rw [(h2 s).1] at e
  simp only [Prod.mk.injEq, DataW.lit.injEq, Lit.int.injEq] at e
  rw [e.1.2, ← (h2 s).2]
  exact hr
set_option maxRecDepth 100000 in
set_option maxHeartbeats 1000000 in
theorem signs_any (w : World) : Calls Tryd.prog 17 #[] w fun e w' => e = .returned (.map (some w.heap.size)) ∧ Known w' w.heap.size ∧ Fresh w w' := by
  have hmm := @run_makeMap Tryd.prog
  have HS := Lib.hid (sign_made w)
  go_enter Tryd.func17, Tryd.ntmps17
  go_wp2_with (with_reducible refine wpList_insert_sign rfl _ _ _ rfl _ rfl HS (by decide) _ _ rfl rfl (by decide) ?_; intro w1 HS)
  go_ret
  exact ⟨rfl, HS.out.1, HS.out.2⟩
end Go.Proofs.YtajmhllldocpjaaDoor

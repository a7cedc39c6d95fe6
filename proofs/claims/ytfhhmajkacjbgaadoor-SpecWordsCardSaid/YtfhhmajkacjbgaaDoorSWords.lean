/-
  The document's words: of a number, and a word's place.
-/
import Derived.Test.YtfhhmajkacjbgaaDoorSTexts
namespace Go.Proofs.YtfhhmajkacjbgaaDoor
open Go.ChangeShapes Go.WideShapes Go.ChangeAt Go.RowKit

def noneS : ByteArray := ⟨#[110, 111, 110, 101]⟩
def wordS (l : List ByteArray) (n : Int) : ByteArray := if 0 ≤ n ∧ n < (l.length : Int) then l.getD n.toNat ⟨#[]⟩ else noneS
/-- Where a word stands from a place on; -1: nowhere. -/
def placeA : Nat → List ByteArray → ByteArray → Int
  | _, [], _ => -1
  | k, t :: r, s => if t = s then (k : Int) else placeA (k + 1) r s
def placeI (l : List ByteArray) (s : ByteArray) : Int := placeA 0 l s
set_option maxRecDepth 100000 in
theorem rword_any (l : List ByteArray) (a : Option Addr) (c : Nat) (n : Int) (w : World) (h : RowAt w a (tcells l)) (hn : (Lit.int .i64 n).wf = true) :
    Calls Tryd.prog 21 #[.slice a l.length c, .int .i64 n] w fun e w' => e = .returned (.string (wordS l n)) ∧ w = w' := by
  have H := Lib.hid h
  have hr : -9223372036854775808 ≤ n ∧ n < 9223372036854775808 := by
    simp [Lit.wf, IntKind.min, IntKind.max, IntKind.signed, IntKind.bits] at hn; omega
  clear h hn
  by_cases hin : 0 ≤ n ∧ n < (l.length : Int)
  · have HW : Hid (wordS l n = l.getD n.toNat ⟨#[]⟩) := by rw [Hid, wordS, if_pos hin]
    obtain ⟨k, rfl⟩ : ∃ k : Nat, n = (k : Int) := ⟨n.toNat, by omega⟩
    have hk : k < l.length := by omega
    obtain ⟨g, o, rfl, hc⟩ := trow_form H.out hk
    have c1 := hc k hk
    have HV : Hid (wordS l (k : Int) = l[k]) := by rw [Hid, HW.out, Int.toNat_natCast, List.getD_eq_getElem?_getD, List.getElem?_eq_getElem hk]; rfl
    clear hc HW
    generalize l[k] = x at *
    go_enter Tryd.func21, Tryd.ntmps21
    go_wp2
    all_goals try (exfalso; omega)
    go_ret
    exact ⟨by rw [HV.out]; rfl, rfl⟩
  · have HW : Hid (wordS l n = noneS) := by rw [Hid, wordS, if_neg hin]
    go_enter Tryd.func21, Tryd.ntmps21
    go_wp2
    all_goals try (exfalso; omega)
    all_goals go_ret
    all_goals exact ⟨by rw [HW.out]; rfl, rfl⟩
set_option maxRecDepth 100000 in
theorem rplace_any (l : List ByteArray) (a : Option Addr) (c : Nat) (s : ByteArray) (w : World) (h : RowAt w a (tcells l)) (hl : l.length ≤ 100) :
    Calls Tryd.prog 17 #[.slice a l.length c, .string s] w fun e w' => e = .returned (.int .i64 (placeI l s)) ∧ w = w' := by
  have H := Lib.hid h
  clear h
  go_enter Tryd.func17, Tryd.ntmps17
  go_wp2
  go_loopw [5] (fun a5 wr => ∃ (k : Nat), a5 = .int .i64 (k : Int) ∧ k ≤ l.length ∧ w = wr ∧ Hid (placeI l s = placeA k (l.drop k) s)) (fun a5 _ => l.length - (intOf a5).toNat)
  case atStart => exact ⟨0, rfl, Nat.zero_le _, rfl, rfl⟩
  case round =>
    obtain ⟨k, rfl, hk, rfl, HP⟩ := hrel
    by_cases hlt : k < l.length
    · obtain ⟨g, o, rfl, hc⟩ := trow_form H.out hlt
      have c1 := hc k hlt
      have HS : Hid (placeI l s = if l[k] = s then (k : Int) else placeA (k + 1) (l.drop (k + 1)) s) := by
        rw [Hid, HP.out, List.drop_eq_getElem_cons hlt, placeA]
      clear hc
      generalize l[k] = x at *
      by_cases hx : x = s
      · subst hx
        have HR : Hid (placeI l x = (k : Int)) := by rw [Hid, HS.out, if_pos rfl]
        go_wp2
        all_goals try (exfalso; omega)
        go_ret
        exact ⟨ret_int HR.out.symm, rfl⟩
      · have HR : Hid (placeI l s = placeA (k + 1) (l.drop (k + 1)) s) := by rw [Hid, HS.out, if_neg hx]
        have e0 := tl_ne hx
        clear HS
        go_wp2
        all_goals try (exfalso; omega)
        go_roundw
        case rel => exact ⟨k + 1, by simp, by omega, by trivial, HR.out⟩
        case measure => simp [intOf]; omega
    · obtain rfl : k = l.length := by omega
      have HR : Hid (placeI l s = -1) := by rw [Hid, HP.out, List.drop_length]; rfl
      go_wp2
      all_goals try (exfalso; omega)
      go_ret
      exact ⟨ret_int HR.out.symm, rfl⟩
def restartL : List ByteArray := [⟨#[97, 108, 119, 97, 121, 115]⟩, ⟨#[111, 110, 45, 102, 97, 105, 108, 117, 114, 101]⟩, ⟨#[110, 101, 118, 101, 114]⟩]
def protoL : List ByteArray := [⟨#[116, 99, 112]⟩, ⟨#[117, 100, 112]⟩]
theorem row_new (w : World) (cs : Array Value) (t : TypeId) : RowAt (w.alloc (.cells cs t)) (some ⟨w.heap.size, 0, none⟩) cs.toList :=
  .inr ⟨_, 0, rfl, fun j x hj => by rw [Nat.zero_add]; exact cell_of_at (at_new w (.cells cs t)) (by simpa using hj)⟩
theorem rrestarts_any (w : World) : Calls Tryd.prog 18 #[] w fun e w' => e = .returned (.slice (some ⟨w.heap.size, 0, none⟩) 3 3) ∧ RowAt w' (some ⟨w.heap.size, 0, none⟩) (tcells restartL) ∧ Fresh w w' := by
  have HR := Lib.hid (row_new w #[.string ⟨#[97, 108, 119, 97, 121, 115]⟩, .string ⟨#[111, 110, 45, 102, 97, 105, 108, 117, 114, 101]⟩, .string ⟨#[110, 101, 118, 101, 114]⟩] 9)
  go_enter Tryd.func18, Tryd.ntmps18
  go_wp2
  go_ret
  exact ⟨rfl, HR.out, (Fresh.refl w).alloc _⟩
theorem rprotos_any (w : World) : Calls Tryd.prog 19 #[] w fun e w' => e = .returned (.slice (some ⟨w.heap.size, 0, none⟩) 2 2) ∧ RowAt w' (some ⟨w.heap.size, 0, none⟩) (tcells protoL) ∧ Fresh w w' := by
  have HR := Lib.hid (row_new w #[.string ⟨#[116, 99, 112]⟩, .string ⟨#[117, 100, 112]⟩] 9)
  go_enter Tryd.func19, Tryd.ntmps19
  go_wp2
  go_ret
  exact ⟨rfl, HR.out, (Fresh.refl w).alloc _⟩
end Go.Proofs.YtfhhmajkacjbgaaDoor

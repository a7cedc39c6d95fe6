/-
  The statements' own Small and key.
-/
import Derived.Test.YtonakfkiidhebaaDoorBase
import Derived.RegionTactic
import Derived.Laws.IdiomStrings

namespace Go.Proofs.YtonakfkiidhebaaDoor
open Go.ChangeShapes Go.WideShapes Go.ChangeAt Go.RowKit
variable {w : World}

/-- A step of a value's building. -/
structure Pt where
  kind : Int
  many : Int
  flag : Bool
  num : Int
  text : ByteArray
def Pt.lies (w : World) (g o : Nat) (p : Pt) : Prop :=
  w.cell? ⟨g, o, none⟩ = some (.int .i64 p.kind) ∧ w.cell? ⟨g, o + 1, none⟩ = some (.int .i64 p.many) ∧ w.cell? ⟨g, o + 2, none⟩ = some (.bool p.flag) ∧ w.cell? ⟨g, o + 3, none⟩ = some (.int .i64 p.num) ∧ w.cell? ⟨g, o + 4, none⟩ = some (.string p.text)
theorem Pt.lies.move {w w' : World} {g o : Nat} {p : Pt} (h : p.lies w g o) (f : Fresh w w') : p.lies w' g o := by
  obtain ⟨h0, h1, h2, h3, h4⟩ := h
  exact ⟨f.cell h0, f.cell h1, f.cell h2, f.cell h3, f.cell h4⟩
/-- The steps, as they came in. -/
def PartsAt (w : World) (a : Option Addr) (len : Nat) (pt : Nat → Pt) : Prop := ∀ i, i < len → ∃ b off, a = some ⟨b, off, none⟩ ∧ (pt i).lies w b (off + i * 5) ∧ (pt i).text.size ≤ 140737488351232
theorem PartsAt.move {w w' : World} {a : Option Addr} {len : Nat} {pt : Nat → Pt} (h : PartsAt w a len pt) (f : Fresh w w') : PartsAt w' a len pt := fun i hi => by
  obtain ⟨b, off, e, h1, h2⟩ := h i hi
  exact ⟨b, off, e, h1.move f, h2⟩
def SmallIs (len : Nat) (pt : Nat → Pt) (w : World) (e : Ending) (w' : World) : Prop := ∃ r : Bool, e = .returned (.bool r) ∧ (r = true → len ≤ 80 ∧ ∀ i, i < len → (pt i).text.size ≤ 40000) ∧ Fresh w w'
theorem small_mul (s : Nat) (m : Int) (hs : s ≤ 140737488351232) (h0 : 0 < m) (h80 : m ≤ 80) : (s : Int) ≤ s * (1 + m) ∧ (s : Int) * (1 + m) ≤ 11399736556781568 := by
  have h1 : 1 ≤ 1 + m := by omega
  have h2 : 1 + m ≤ 81 := by omega
  constructor
  · have := Int.mul_le_mul_of_nonneg_left h1 (show (0 : Int) ≤ s by omega)
    omega
  · have := Int.mul_le_mul_of_nonneg_left h2 (show (0 : Int) ≤ s by omega)
    omega
set_option maxRecDepth 100000 in
set_option maxHeartbeats 1000000 in
theorem small_any (a : Option Addr) (len cap : Nat) (pt : Nat → Pt) (w : World) (h : PartsAt w a len pt) (hl : len ≤ 9223372036854775807) : Calls Tryd.prog 6 #[.slice a len cap] w (SmallIs len pt w) := by
  have HP := Lib.hid h
  clear h
  go_enter Tryd.func6, Tryd.ntmps6
  go_wp2
  go_loopw [3, 8] (fun a3 a8 wq => ∃ (n : Int) (j : Nat), 0 ≤ n ∧ n ≤ 40000 ∧ j ≤ len ∧ a3 = .int .i64 n ∧ a8 = .int .i64 j ∧ Hid (∀ i, i < j → ((pt i).text.size : Int) ≤ n) ∧ Hid (Fresh w wq)) (fun _ a8 _ => len - (intOf a8).toNat)
  case atStart => exact ⟨0, 0, by omega, by omega, Nat.zero_le _, rfl, rfl, (fun i hi => absurd hi (Nat.not_lt_zero _)), Fresh.refl w⟩
  case round =>
    obtain ⟨n, j, hn0, hn1, hj, rfl, rfl, HA, HW⟩ := hrel
    by_cases hlt : j < len
    · obtain ⟨b, off, ea, hp, hsz⟩ := HP.out j hlt
      subst ea
      have hp2 := hp.move HW.out
      have HB : Hid (∀ n' : Int, n ≤ n' → ((pt j).text.size : Int) ≤ n' → ∀ i, i < j + 1 → ((pt i).text.size : Int) ≤ n') := fun n' h1 h2 i hi => by
        rcases Nat.lt_or_ge i j with h | h
        · have := HA.out i h; omega
        · obtain rfl : i = j := by omega
          exact h2
      clear hp
      generalize pt j = p at *
      obtain ⟨k, m, f, nn, s⟩ := p
      obtain ⟨c0, c1, c2, c3, c4⟩ := hp2
      dsimp only at c0 c1 c2 c3 c4 hsz HB
      have HF : Hid (Fresh w (wr.alloc (.cells #[.int .i64 k, .int .i64 m, .bool f, .int .i64 nn, .string s] 60))) := HW.out.alloc _
      by_cases h80 : 80 < m
      · by_cases hbig : 40000 < n + (s.size : Int) * 81
        · go_wp2
          go_ret
          exact ⟨false, rfl, (fun h => by cases h), HF.out⟩
        · have HB2 := Lib.hid (HB.out (n + (s.size : Int) * 81) (by omega) (by omega))
          go_wp2
          go_roundw
          case rel => exact ⟨n + (s.size : Int) * 81, j + 1, by omega, by omega, by omega, rfl, by go_num, HB2.out, HF.out⟩
          case measure => simp [intOf]; omega
      by_cases h0 : 0 < m
      · obtain ⟨hm1, hm2⟩ := small_mul s.size m hsz h0 (by omega)
        have hm3 : m ≤ 80 := by omega
        generalize hX : (s.size : Int) * (1 + m) = X at *
        by_cases hbig : 40000 < n + X
        · go_wp2
          go_ret
          exact ⟨false, rfl, (fun h => by cases h), HF.out⟩
        · have HB2 := Lib.hid (HB.out (n + X) (by omega) (by omega))
          go_wp2
          go_roundw
          case rel => exact ⟨n + X, j + 1, by omega, by omega, by omega, rfl, by go_num, HB2.out, HF.out⟩
          case measure => simp [intOf]; omega
      · have hm3 : m ≤ 0 := by omega
        by_cases hbig : 40000 < n + (s.size : Int)
        · go_wp2
          go_ret
          exact ⟨false, rfl, (fun h => by cases h), HF.out⟩
        · have HB2 := Lib.hid (HB.out (n + (s.size : Int)) (by omega) (by omega))
          go_wp2
          go_roundw
          case rel => exact ⟨n + (s.size : Int), j + 1, by omega, by omega, by omega, rfl, by go_num, HB2.out, HF.out⟩
          case measure => simp [intOf]; omega
    · obtain rfl : j = len := by omega
      go_wp2
      go_ret
      exact ⟨_, rfl, fun h => ⟨by simp at h; omega, fun i hi => by have := HA.out i hi; omega⟩, HW.out⟩

def Pt.val (p : Pt) : Value := .agg #[.int .i64 p.kind, .int .i64 p.many, .bool p.flag, .int .i64 p.num, .string p.text]
/-- The n-th key of a part. -/
def keyName (p : Pt) (n : Nat) : ByteArray := p.text ++ ⟨#[UInt8.ofNat (97 + (if p.num = 4 then 0 else n) % 26)]⟩
theorem conv_one (w : World) (c : UInt8) (x : Int) (hx : (c.toNat : Int) = x) : (convert 76 9 (.slice (some ⟨w.heap.size, 0, none⟩) 1 1)).run Tryd.prog (w.alloc (.cells #[.int .u8 x] 5)) = .ok (.string ⟨#[c]⟩) (w.alloc (.cells #[.int .u8 x] 5)) := by
  subst hx
  exact run_convert_bytes_back (P := Tryd.prog) (w.alloc (.cells #[.int .u8 (c.toNat : Int)] 5)) 76 9 5 ⟨w.heap.size, 0, none⟩ 1 [c] Tryd.underlying76 Tryd.underlying5 Tryd.underlying9 (fun j hj => by
    have e : (⟨w.heap.size, 0, none⟩ : Addr).add j = ⟨w.heap.size, j, none⟩ := by simp [Addr.add]; exact fun h => h.symm
    rw [e, World.cell?_alloc_at _ _ _ _ rfl]
    simp at hj
    subst hj
    rfl)

/-! ### pack.Put and the document's Put -/
theorem byte_val (n : Nat) : ((UInt8.ofNat (97 + n % 26)).toNat : Int) = 97 + (n : Int) % 26 := by
  rw [UInt8.toNat_ofNat']
  omega
set_option maxRecDepth 100000 in
set_option maxHeartbeats 1000000 in
theorem key_any (p : Pt) (n : Nat) (w : World) (hn : n ≤ 1000) (hs : p.text.size ≤ 40000) : Calls Tryd.prog 23 #[p.val, .int .i64 n] w fun e w' => e = .returned (.string (keyName p n)) ∧ Fresh w w' := by
  obtain ⟨k, m, f, nn, s⟩ := p
  dsimp only [Pt.val, keyName] at *
  by_cases h4 : nn = 4
  · subst h4
    have H : Hid ((97 + (if (4 : Int) = 4 then 0 else n) % 26) = 97) := by simp [Hid]
    rw [H.out]
    have hcv := conv_one (w.alloc (.cells #[.int .i64 k, .int .i64 m, .bool f, .int .i64 4, .string s] 60)) (UInt8.ofNat 97) 97 rfl
    rw [World.size_alloc] at hcv
    go_enter Tryd.func23, Tryd.ntmps23
    go_wp2
    go_ret
    exact ⟨rfl, ((Fresh.refl w).alloc _).alloc _⟩
  · have e4 : (nn == 4) = false := by simpa using h4
    have H : Hid ((97 + (if nn = 4 then 0 else n) % 26) = 97 + n % 26) := by rw [Hid, if_neg h4]
    rw [H.out]
    have hcv := conv_one (w.alloc (.cells #[.int .i64 k, .int .i64 m, .bool f, .int .i64 nn, .string s] 60)) (UInt8.ofNat (97 + n % 26)) (97 + (n : Int) % 26) (byte_val n)
    rw [World.size_alloc] at hcv
    generalize UInt8.ofNat (97 + n % 26) = c at *
    clear h4
    go_enter Tryd.func23, Tryd.ntmps23
    go_wp2
    go_ret
    exact ⟨rfl, ((Fresh.refl w).alloc _).alloc _⟩
end Go.Proofs.YtonakfkiidhebaaDoor

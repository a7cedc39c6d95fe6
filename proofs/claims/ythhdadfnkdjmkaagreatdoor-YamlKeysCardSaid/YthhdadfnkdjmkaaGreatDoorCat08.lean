/-
  Package utf's Unquote of texts that are quoted well.
  Of valid UTF-8: bytes behind a lead byte.
  Of valid UTF-8: what its first character is, and how many bytes it has.
  Package utf's reader, of whatever text: escapes, characters; and Unquote.
  Package utf's reader, of whatever text: escapes and characters.
-/
import Derived.Test.YthhdadfnkdjmkaaGreatDoorCat07
import Derived.IntWalk
namespace Go.Proofs.YthhdadfnkdjmkaaGreatDoor
open Go.ChangeShapes Go.WideShapes Go.ChangeAt Go.RowKit
attribute [local go_sem ↓] Go.wp_at_zero Go.wp_at_succ
variable {w : World}

/-! ### what Unquote reads -/
/-- A piece of a quoted text, and what it says. -/
def Item (p m : List UInt8) : Prop := (∃ c cs, p = c :: cs ∧ c.toNat ≠ 34) ∧ ∀ (b : Nat) (rest : List UInt8) (v : Value) (text : List UInt8) (w : World), Tabs w → text.length ≤ 100000 → Rdr w b (p ++ rest) v text → Calls Tryz.prog 101 #[.pointer (some ⟨b, 0, none⟩)] w (Reads w b rest (text ++ m) 0)
/-- Such pieces, one behind the other. -/
inductive Un : List UInt8 → List UInt8 → Prop
  | nil : Un [] []
  | step (p m src out : List UInt8) : Item p m → Un src out → Un (p ++ src) (m ++ out)
/-- What Unquote answers. -/
def unqRes (src out : List UInt8) : Ending := if out.length ≤ 4096 then .returned (.tuple #[.string (bs out), .int .i64 ((src.length : Int) + 2), .int .i64 0]) else .returned (.tuple #[.string ⟨#[]⟩, .int .i64 0, .int .i64 2])
def restLen (w : World) (b : Nat) : Nat := match w.cell? ⟨b, 0, none⟩ with
  | some (.string s) => s.size
  | _ => 0
theorem Rdr.restLen {w : World} {b : Nat} {rest : List UInt8} {v : Value} {text : List UInt8} (h : Rdr w b rest v text) : YthhdadfnkdjmkaaGreatDoor.restLen w b = rest.length := by
  rw [YthhdadfnkdjmkaaGreatDoor.restLen, h.c0]
  exact bs_size rest
set_option maxRecDepth 100000 in
set_option maxHeartbeats 4000000 in
theorem unquote_any (src out behind : List UInt8) (w : World) (hU : Un src out) (ho : out.length ≤ 100000) (hs : src.length + behind.length ≤ 1000000) (hT : Tabs w) :
    Calls Tryz.prog 74 #[.string (bs (34 :: (src ++ 34 :: behind)))] w fun e w' => e = unqRes src out ∧ Fresh w w' := by
  have HU := Lib.hid hU
  have HT := Lib.hid hT
  have HZ : Hid ((bs (34 :: (src ++ 34 :: behind))).size = src.length + behind.length + 2) := by rw [Hid, bs_size]; simp; omega
  obtain ⟨p1, p2, p3, p4⟩ := bs_cons 34 (src ++ 34 :: behind)
  generalize bs (34 :: (src ++ 34 :: behind)) = r at *
  have H0 : Hid (Rdr (w.alloc (.cells #[.string (bs (src ++ 34 :: behind)), .slice none 0 0] 153)) w.heap.size (src ++ 34 :: behind) (.slice none 0 0) []) :=
    ⟨at_new w _, World.ownsRow_nil _ _ _ _⟩
  have HF0 := Lib.hid ((Fresh.refl w).alloc (.cells #[.string (bs (src ++ 34 :: behind)), .slice none 0 0] 153))
  generalize bs (src ++ 34 :: behind) = r1 at *
  clear hU hT
  go_enter Tryz.func74, Tryz.ntmps74
  go_wp2
  go_loopw [4] (fun a4 wr => a4 = .int .i64 0 ∧ ∃ (t1 src2 out2 : List UInt8) (v : Value), Hid (Un src2 out2) ∧ Hid (out = t1 ++ out2) ∧ Hid (Rdr wr w.heap.size (src2 ++ 34 :: behind) v t1) ∧ Hid (Fresh w wr)) (fun _ wr => restLen wr w.heap.size)
  case atStart => exact ⟨rfl, [], src, out, .slice none 0 0, HU.out, rfl, H0.out, HF0.out⟩
  case round =>
    obtain ⟨rfl, t1, src2, out2, v, HU2, HO, HR, HF⟩ := hrel
    clear H0 HF0
    have hu := HU2.out
    rcases hu with _ | ⟨p, m, src3, out3, hi, hu3⟩
    · have HR2 : Hid (Rdr wr w.heap.size (34 :: behind) v t1) := HR.out
      have HO2 : Hid (out = t1) := by rw [Hid, HO.out, List.append_nil]
      clear HU2 HO HR
      go_wp2_with fail
      refine (mark_yes _ behind v t1 _ HR2.out).mono ?_
      rintro e w' ⟨rfl, rfl⟩
      have c0 := HR2.out.c0
      have c1 := HR2.out.c1
      have hb1 : r.size ≤ 1000002 := by rw [HZ.out]; omega
      have HZ2 : Hid ((bs (34 :: behind)).size = behind.length + 1) := by rw [Hid, bs_size]; rfl
      have hb2 : (bs (34 :: behind)).size ≤ 1000001 := by rw [HZ2.out]; omega
      have hb3 : (bs (34 :: behind)).size ≤ r.size := by rw [HZ2.out, HZ.out]; omega
      have HEQ : Hid ((r.size : Int) - ((bs (34 :: behind)).size : Int) + 1 = (src.length : Int) + 2) := by rw [Hid, HZ.out, HZ2.out]; omega
      generalize bs (34 :: behind) = r2 at *
      have hbuf := HR2.out.buf
      rcases hbuf with ⟨hl, ⟨rfl, hl0⟩ | ⟨g, cap, cur, rfl, hg1, hg2, hg3, hg4, hg5, hg6⟩⟩
      · obtain rfl : t1 = [] := by cases t1 with
          | nil => rfl
          | cons => simp at hl0
        have hcv := text_nil wr.drew
        clear hl hl0
        have HE : Hid (unqRes src out = .returned (.tuple #[.string (bs out), .int .i64 ((src.length : Int) + 2), .int .i64 0])) := by rw [Hid, unqRes, if_pos (by rw [HO2.out]; simp)]
        go_wp2
        have w1 : IntKind.i64.wrap ((r.size : Int) - (r2.size : Int)) = (r.size : Int) - (r2.size : Int) := IntWalk.i64_in _ (by omega)
        have w2 : IntKind.i64.wrap ((r.size : Int) - (r2.size : Int) + 1) = (r.size : Int) - (r2.size : Int) + 1 := IntWalk.i64_in _ (by omega)
        go_region_held3 (fun w' => (w'.cell? ⟨w.heap.size, 0, none⟩ = some (.string r2) ∧ w'.cell? ⟨w.heap.size, 1, none⟩ = some (.slice none 0 0) ∧ (convert 145 9 (.slice none 0 0)).run Tryz.prog w' = .ok (.string ⟨#[]⟩) w')) (go_keep) ((fail))
        all_goals
          go_wp2
          refine bodyPost_ret (v := .tuple #[.string (bs []), .int .i64 ((r.size : Int) - (r2.size : Int) + 1), .int .i64 0]) (by simp [results, Tryz.results74, go_sem, bs]) rfl ⟨?_, HF.out.drew⟩
          rw [HE.out, HO2.out, HEQ.out]
      · have hcv : (convert 145 9 (.slice (some ⟨g, 0, none⟩) t1.length cap)).run Tryz.prog wr.drew = .ok (.string (bs t1)) wr.drew := (Buf.text HR2.out.buf.drew).2
        clear hl hg1 hg2 hg3 hg4 hg5 hg6
        by_cases h4 : t1.length ≤ 4096
        · have h4' : ¬ 4096 < t1.length := by omega
          have HE : Hid (unqRes src out = .returned (.tuple #[.string (bs out), .int .i64 ((src.length : Int) + 2), .int .i64 0])) := by rw [Hid, unqRes, if_pos (by rw [HO2.out]; exact h4)]
          go_wp2
          have w1 : IntKind.i64.wrap ((r.size : Int) - (r2.size : Int)) = (r.size : Int) - (r2.size : Int) := IntWalk.i64_in _ (by omega)
          have w2 : IntKind.i64.wrap ((r.size : Int) - (r2.size : Int) + 1) = (r.size : Int) - (r2.size : Int) + 1 := IntWalk.i64_in _ (by omega)
          go_region_held3 (fun w' => (w'.cell? ⟨w.heap.size, 0, none⟩ = some (.string r2) ∧ w'.cell? ⟨w.heap.size, 1, none⟩ = some (.slice (some ⟨g, 0, none⟩) t1.length cap) ∧ (convert 145 9 (.slice (some ⟨g, 0, none⟩) t1.length cap)).run Tryz.prog w' = .ok (.string (bs t1)) w')) (go_keep) ((fail))
          all_goals
            go_wp2
            refine bodyPost_ret (v := .tuple #[.string (bs t1), .int .i64 ((r.size : Int) - (r2.size : Int) + 1), .int .i64 0]) (by simp [results, Tryz.results74, go_sem]) rfl ⟨?_, HF.out.drew⟩
            rw [HE.out, HO2.out, HEQ.out]
        · have h4' : 4096 < t1.length := by omega
          have HE : Hid (unqRes src out = .returned (.tuple #[.string ⟨#[]⟩, .int .i64 0, .int .i64 2])) := by rw [Hid, unqRes, if_neg (by rw [HO2.out]; exact h4)]
          go_wp2
          refine bodyPost_ret (v := .tuple #[.string ⟨#[]⟩, .int .i64 0, .int .i64 2]) (by simp [results, Tryz.results74, go_sem]) rfl ⟨?_, HF.out⟩
          rw [HE.out]
    · obtain ⟨⟨c, cs, rfl, hc⟩, hI⟩ := hi
      have HR2 : Hid (Rdr wr w.heap.size ((c :: cs) ++ (src3 ++ 34 :: behind)) v t1) := by rw [Hid, ← List.append_assoc]; exact HR.out
      have HO2 : Hid (out = (t1 ++ m) ++ out3) := by rw [Hid, HO.out, List.append_assoc]
      have HI := Lib.hid (hI w.heap.size (src3 ++ 34 :: behind) v t1 wr (HT.out.move HF.out) (by have := congrArg List.length HO.out; rw [List.length_append] at this; omega) HR2.out)
      have HU3 := Lib.hid hu3
      have HM : Hid (restLen wr w.heap.size = ((c :: cs) ++ (src3 ++ 34 :: behind)).length) := HR2.out.restLen
      clear HU2 hu3 hI HR
      go_wp2_with fail
      refine (mark_no _ c (cs ++ (src3 ++ 34 :: behind)) v t1 _ hc HR2.out).mono ?_
      rintro e w' ⟨rfl, rfl⟩
      go_wp2_with fail
      refine HI.out.mono ?_
      rintro e w2 ⟨rfl, ⟨v2, hr2⟩, hb2⟩
      have HR3 := Lib.hid hr2
      have HF3 := Lib.hid (HF.out.below hb2 (Nat.le_refl _))
      clear hr2 hb2
      go_wp2
      go_roundw
      case rel => exact ⟨rfl, t1 ++ m, src3, out3, v2, HU3.out, HO2.out, HR3.out, HF3.out⟩
      case measure => rw [HM.out, HR3.out.restLen]; simp; omega
end Go.Proofs.YthhdadfnkdjmkaaGreatDoor
namespace Go.Proofs.YthhdadfnkdjmkaaGreatDoor
open Go.ChangeShapes Go.WideShapes Go.ChangeAt Go.RowKit
variable {w : World}

/-- The bytes behind a lead byte: so many, the first of them in a range of its own. -/
def contOK : List UInt8 → Nat → Nat → Nat → Bool
  | _, 0, _, _ => true
  | [], _ + 1, _, _ => false
  | b :: l, n + 1, lo, hi => decide (lo ≤ b.toNat ∧ b.toNat ≤ hi) && contOK l n 128 191
theorem valid_lead (c : UInt8) (l : List UInt8) (n lo hi : Nat) (hc : 128 ≤ c.toNat) (hn : n = 1 ∨ n = 2 ∨ n = 3) (h1 : Lib.firstT c.toNat % 8 = n + 1) (h2 : Lib.accLo (Lib.firstT c.toNat / 16) = lo) (h3 : Lib.accHi (Lib.firstT c.toNat / 16) = hi) :
    Lib.validD (c :: l) = (contOK l n lo hi && Lib.validD (l.drop n)) := by
  rw [Lib.validD_lead (c :: l) (by simp) (by simpa using hc)]
  simp only [List.getD_cons_zero, List.getD_cons_succ, h1, h2, h3]
  rcases hn with rfl | rfl | rfl
  · rcases l with _ | ⟨a, l⟩
    · simp [Lib.checkN, contOK]
    · by_cases ha : lo ≤ a.toNat ∧ a.toNat ≤ hi
      · rw [Lib.checkN, if_pos rfl, if_neg (by simp; omega)]
        simp [contOK, ha]
      · rw [Lib.checkN, if_pos rfl, if_pos (by simp; omega)]
        simp [contOK, ha]
  · rcases l with _ | ⟨a, _ | ⟨b, l⟩⟩
    · simp [Lib.checkN, contOK]
    · simp [Lib.checkN, contOK]
    · by_cases ha : lo ≤ a.toNat ∧ a.toNat ≤ hi
      · by_cases hb : 128 ≤ b.toNat ∧ b.toNat ≤ 191
        · rw [Lib.checkN, if_neg (by omega), if_pos rfl, if_neg (by simp; omega)]
          simp [contOK, ha, hb]
        · rw [Lib.checkN, if_neg (by omega), if_pos rfl, if_pos (by simp; omega)]
          simp [contOK, hb]
      · rw [Lib.checkN, if_neg (by omega), if_pos rfl, if_pos (by simp; omega)]
        simp [contOK, ha]
  · rcases l with _ | ⟨a, _ | ⟨b, _ | ⟨d, l⟩⟩⟩
    · simp [Lib.checkN, contOK]
    · simp [Lib.checkN, contOK]
    · simp [Lib.checkN, contOK]
    · by_cases ha : lo ≤ a.toNat ∧ a.toNat ≤ hi
      · by_cases hb : 128 ≤ b.toNat ∧ b.toNat ≤ 191
        · by_cases hd : 128 ≤ d.toNat ∧ d.toNat ≤ 191
          · rw [Lib.checkN, if_neg (by omega), if_neg (by omega), if_pos rfl, if_neg (by simp; omega)]
            simp [contOK, ha, hb, hd]
          · rw [Lib.checkN, if_neg (by omega), if_neg (by omega), if_pos rfl, if_pos (by simp; omega)]
            simp [contOK, hd]
        · rw [Lib.checkN, if_neg (by omega), if_neg (by omega), if_pos rfl, if_pos (by simp; omega)]
          simp [contOK, hb]
      · rw [Lib.checkN, if_neg (by omega), if_neg (by omega), if_pos rfl, if_pos (by simp; omega)]
        simp [contOK, ha]
theorem valid_bad (c : UInt8) (l : List UInt8) (hc : 128 ≤ c.toNat) (h1 : Lib.firstT c.toNat = 241) : Lib.validD (c :: l) = false := by
  rw [Lib.validD_lead (c :: l) (by simp) (by simpa using hc)]
  simp [Lib.checkN, h1]
theorem drop_at (s : ByteArray) (i : Nat) (h : i < s.size) : s.data.toList.drop i = s[i] :: s.data.toList.drop (i + 1) := by
  rw [List.drop_eq_getElem_cons (by simpa using h)]; rfl
/-- What a lead byte asks for. -/
def Lead (s : ByteArray) (i n lo hi : Nat) : Prop := Lib.validD (s.data.toList.drop i) = (contOK (s.data.toList.drop (i + 1)) n lo hi && Lib.validD (s.data.toList.drop (i + 1 + n)))
theorem lead_of (s : ByteArray) (i n lo hi : Nat) (h : i < s.size) (hc : 128 ≤ s[i].toNat) (hn : n = 1 ∨ n = 2 ∨ n = 3) (h1 : Lib.firstT s[i].toNat % 8 = n + 1) (h2 : Lib.accLo (Lib.firstT s[i].toNat / 16) = lo) (h3 : Lib.accHi (Lib.firstT s[i].toNat / 16) = hi) : Lead s i n lo hi := by
  unfold Lead
  rw [drop_at s i h, valid_lead _ _ n lo hi hc hn h1 h2 h3, List.drop_drop]
theorem lead_ascii (s : ByteArray) (i : Nat) (h : i < s.size) (hc : s[i].toNat < 128) : Lead s i 0 128 191 := by
  unfold Lead
  rw [drop_at s i h, Lib.validD_cons _ _ hc, contOK, Bool.true_and, Nat.add_zero]
theorem lead_bad (s : ByteArray) (i : Nat) (h : i < s.size) (hc : 128 ≤ s[i].toNat) (h1 : Lib.firstT s[i].toNat = 241) : Lib.validD (s.data.toList.drop i) = false := by
  rw [drop_at s i h, valid_bad _ _ hc h1]
/-- So far the bytes behind are well. -/
def Cont (s : ByteArray) (i n lo hi k lo' hi' : Nat) : Prop := contOK (s.data.toList.drop (i + 1)) n lo hi = contOK (s.data.toList.drop (i + k)) (n + 1 - k) lo' hi'
theorem cont_short {s : ByteArray} {i n lo hi k lo' hi' : Nat} (h : Cont s i n lo hi k lo' hi') (hk : k ≤ n) (hs : s.size ≤ i + k) : contOK (s.data.toList.drop (i + 1)) n lo hi = false := by
  rw [h, List.drop_eq_nil_of_le (by simpa using hs), show n + 1 - k = (n - k) + 1 by omega, contOK]
theorem cont_no {s : ByteArray} {i n lo hi k lo' hi' : Nat} (h : Cont s i n lo hi k lo' hi') (hk : k ≤ n) (hs : i + k < s.size) (hb : s[i + k].toNat < lo' ∨ hi' < s[i + k].toNat) : contOK (s.data.toList.drop (i + 1)) n lo hi = false := by
  rw [h, drop_at s (i + k) hs, show n + 1 - k = (n - k) + 1 by omega, contOK, decide_eq_false (by omega), Bool.false_and]
theorem cont_yes {s : ByteArray} {i n lo hi k lo' hi' : Nat} (h : Cont s i n lo hi k lo' hi') (hk : k ≤ n) (hs : i + k < s.size) (hb : lo' ≤ s[i + k].toNat ∧ s[i + k].toNat ≤ hi') : Cont s i n lo hi (k + 1) 128 191 := by
  unfold Cont at h ⊢
  rw [h, drop_at s (i + k) hs, show n + 1 - k = (n - k) + 1 by omega, contOK, decide_eq_true hb, Bool.true_and, show n + 1 - (k + 1) = n - k by omega, Nat.add_assoc]
theorem cont_end {s : ByteArray} {i n lo hi lo' hi' : Nat} (h : Cont s i n lo hi (n + 1) lo' hi') : contOK (s.data.toList.drop (i + 1)) n lo hi = true := by
  rw [h, Nat.sub_self, contOK]
end Go.Proofs.YthhdadfnkdjmkaaGreatDoor
namespace Go.Proofs.YthhdadfnkdjmkaaGreatDoor
open Go.Lib
theorem dec2 (n c b1 b2 b3 : Nat) (hn : 2 ≤ n) (hc : 194 ≤ c) (hc2 : c < 224) (h1 : 128 ≤ b1) (h2 : b1 ≤ 191) : (decodeN n c b1 b2 b3).2 = 2 := by
  rw [decodeN, if_neg (by omega), if_pos (by omega), if_pos (by omega)]
theorem dec3 (n c b1 b2 b3 : Nat) (hn : 3 ≤ n) (hc : 224 ≤ c) (hc2 : c < 240) (h1 : 128 ≤ b1) (h2 : b1 ≤ 191) (h3 : 128 ≤ b2) (h4 : b2 ≤ 191) (e1 : c = 224 → 160 ≤ b1) (e2 : c = 237 → b1 ≤ 159) : (decodeN n c b1 b2 b3).2 = 3 := by
  rw [decodeN, if_neg (by omega), if_neg (by omega), if_pos (by omega), if_pos (by omega)]
theorem dec4 (n c b1 b2 b3 : Nat) (hn : 4 ≤ n) (hc : 240 ≤ c) (hc2 : c < 245) (h1 : 128 ≤ b1) (h2 : b1 ≤ 191) (h3 : 128 ≤ b2) (h4 : b2 ≤ 191) (h5 : 128 ≤ b3) (h6 : b3 ≤ 191) (e1 : c = 240 → 144 ≤ b1) (e2 : c = 244 → b1 ≤ 143) : (decodeN n c b1 b2 b3).2 = 4 := by
  rw [decodeN, if_neg (by omega), if_neg (by omega), if_neg (by omega), if_pos (by omega), if_pos (by omega)]
theorem dec_bs (l : List UInt8) (h : l ≠ []) : decodeGo (bs l) = decodeN l.length (l.getD 0 0).toNat (l.getD 1 0).toNat (l.getD 2 0).toNat (l.getD 3 0).toNat := by
  have hs : (bs l).size ≠ 0 := by rw [bs_size]; exact fun e => h (List.eq_nil_of_length_eq_zero e)
  have g : ∀ i, (bs l).get! i = l.getD i 0 := fun i => by
    simp [bs, ByteArray.get!, List.getD_eq_getElem?_getD]
    rfl
  rw [decodeGo, if_neg hs, decode_at, Nat.sub_zero, bs_size, g, g, g, g]
/-- A character's bytes behind its first one. -/
structure Tail (c : UInt8) (cs : List UInt8) : Prop where
  high : ∀ b ∈ cs, 128 ≤ b.toNat
  valid : validD (c :: cs) = true
  len : cs.length ≤ 3
  dec : ∀ rest, (decodeGo (bs (c :: cs ++ rest))).2 = (c :: cs).length
theorem cont1 {l : List UInt8} {lo hi : Nat} (h : contOK l 1 lo hi = true) : ∃ a l2, l = a :: l2 ∧ lo ≤ a.toNat ∧ a.toNat ≤ hi := by
  cases l with
  | nil => simp [contOK] at h
  | cons a l2 => simp [contOK] at h; exact ⟨a, l2, rfl, h⟩
theorem cont2 {l : List UInt8} {lo hi : Nat} (h : contOK l 2 lo hi = true) : ∃ a b l2, l = a :: b :: l2 ∧ (lo ≤ a.toNat ∧ a.toNat ≤ hi) ∧ 128 ≤ b.toNat ∧ b.toNat ≤ 191 := by
  rcases l with _ | ⟨a, _ | ⟨b, l2⟩⟩
  · simp [contOK] at h
  · simp [contOK] at h
  · simp [contOK] at h; exact ⟨a, b, l2, rfl, h.1, h.2⟩
theorem cont3 {l : List UInt8} {lo hi : Nat} (h : contOK l 3 lo hi = true) : ∃ a b d l2, l = a :: b :: d :: l2 ∧ (lo ≤ a.toNat ∧ a.toNat ≤ hi) ∧ (128 ≤ b.toNat ∧ b.toNat ≤ 191) ∧ 128 ≤ d.toNat ∧ d.toNat ≤ 191 := by
  rcases l with _ | ⟨a, _ | ⟨b, _ | ⟨d, l2⟩⟩⟩
  · simp [contOK] at h
  · simp [contOK] at h
  · simp [contOK] at h
  · simp [contOK] at h; exact ⟨a, b, d, l2, rfl, h.1, h.2.1, h.2.2⟩
theorem tail1 {c a : UInt8} (h0 : 194 ≤ c.toNat) (h1 : c.toNat < 224) (h2 : 128 ≤ a.toNat) (h3 : a.toNat ≤ 191) (hv : validD [c, a] = true) : Tail c [a] :=
  ⟨by simp; omega, hv, by simp, fun rest => by
    rw [dec_bs _ (by simp)]
    exact dec2 _ _ _ _ _ (by simp) h0 h1 h2 h3⟩
theorem tail2 {c a b : UInt8} (h0 : 224 ≤ c.toNat) (h1 : c.toNat < 240) (h2 : 128 ≤ a.toNat) (h3 : a.toNat ≤ 191) (h4 : 128 ≤ b.toNat) (h5 : b.toNat ≤ 191) (e1 : c.toNat = 224 → 160 ≤ a.toNat) (e2 : c.toNat = 237 → a.toNat ≤ 159) (hv : validD [c, a, b] = true) : Tail c [a, b] :=
  ⟨by simp; omega, hv, by simp, fun rest => by
    rw [dec_bs _ (by simp)]
    exact dec3 _ _ _ _ _ (by simp) h0 h1 h2 h3 h4 h5 e1 e2⟩
theorem tail3 {c a b d : UInt8} (h0 : 240 ≤ c.toNat) (h1 : c.toNat < 245) (h2 : 128 ≤ a.toNat) (h3 : a.toNat ≤ 191) (h4 : 128 ≤ b.toNat) (h5 : b.toNat ≤ 191) (h6 : 128 ≤ d.toNat) (h7 : d.toNat ≤ 191) (e1 : c.toNat = 240 → 144 ≤ a.toNat) (e2 : c.toNat = 244 → a.toNat ≤ 143) (hv : validD [c, a, b, d] = true) : Tail c [a, b, d] :=
  ⟨by simp; omega, hv, by simp, fun rest => by
    rw [dec_bs _ (by simp)]
    exact dec4 _ _ _ _ _ (by simp) h0 h1 h2 h3 h4 h5 h6 h7 e1 e2⟩
theorem split1 {c : UInt8} {l : List UInt8} {lo hi : Nat} (hc : 128 ≤ c.toNat) (h0 : 194 ≤ c.toNat) (h1 : c.toNat < 224) (hlo : 128 ≤ lo) (hhi : hi ≤ 191) (k1 : firstT c.toNat % 8 = 1 + 1) (k2 : accLo (firstT c.toNat / 16) = lo) (k3 : accHi (firstT c.toNat / 16) = hi) (hv : validD (c :: l) = true) : ∃ cs l2, l = cs ++ l2 ∧ Tail c cs ∧ validD l2 = true := by
  rw [valid_lead c l 1 lo hi hc (.inl rfl) k1 k2 k3, Bool.and_eq_true] at hv
  obtain ⟨a, l2, rfl, ha1, ha2⟩ := cont1 hv.1
  refine ⟨[a], l2, rfl, tail1 h0 h1 (by omega) (by omega) ?_, hv.2⟩
  rw [valid_lead c [a] 1 lo hi hc (.inl rfl) k1 k2 k3]
  simp [contOK, ha1, ha2, validD_nil]
theorem split2 {c : UInt8} {l : List UInt8} {lo hi : Nat} (hc : 128 ≤ c.toNat) (h0 : 224 ≤ c.toNat) (h1 : c.toNat < 240) (hlo : 128 ≤ lo) (hhi : hi ≤ 191) (e1 : c.toNat = 224 → 160 ≤ lo) (e2 : c.toNat = 237 → hi ≤ 159) (k1 : firstT c.toNat % 8 = 2 + 1) (k2 : accLo (firstT c.toNat / 16) = lo) (k3 : accHi (firstT c.toNat / 16) = hi) (hv : validD (c :: l) = true) : ∃ cs l2, l = cs ++ l2 ∧ Tail c cs ∧ validD l2 = true := by
  rw [valid_lead c l 2 lo hi hc (.inr (.inl rfl)) k1 k2 k3, Bool.and_eq_true] at hv
  obtain ⟨a, b, l2, rfl, ⟨ha1, ha2⟩, hb1, hb2⟩ := cont2 hv.1
  refine ⟨[a, b], l2, rfl, tail2 h0 h1 (by omega) (by omega) hb1 hb2 (fun e => by have := e1 e; omega) (fun e => by have := e2 e; omega) ?_, hv.2⟩
  rw [valid_lead c [a, b] 2 lo hi hc (.inr (.inl rfl)) k1 k2 k3]
  simp [contOK, ha1, ha2, hb1, hb2, validD_nil]
theorem split3 {c : UInt8} {l : List UInt8} {lo hi : Nat} (hc : 128 ≤ c.toNat) (h0 : 240 ≤ c.toNat) (h1 : c.toNat < 245) (hlo : 128 ≤ lo) (hhi : hi ≤ 191) (e1 : c.toNat = 240 → 144 ≤ lo) (e2 : c.toNat = 244 → hi ≤ 143) (k1 : firstT c.toNat % 8 = 3 + 1) (k2 : accLo (firstT c.toNat / 16) = lo) (k3 : accHi (firstT c.toNat / 16) = hi) (hv : validD (c :: l) = true) : ∃ cs l2, l = cs ++ l2 ∧ Tail c cs ∧ validD l2 = true := by
  rw [valid_lead c l 3 lo hi hc (.inr (.inr rfl)) k1 k2 k3, Bool.and_eq_true] at hv
  obtain ⟨a, b, d, l2, rfl, ⟨ha1, ha2⟩, ⟨hb1, hb2⟩, hd1, hd2⟩ := cont3 hv.1
  refine ⟨[a, b, d], l2, rfl, tail3 h0 h1 (by omega) (by omega) hb1 hb2 hd1 hd2 (fun e => by have := e1 e; omega) (fun e => by have := e2 e; omega) ?_, hv.2⟩
  rw [valid_lead c [a, b, d] 3 lo hi hc (.inr (.inr rfl)) k1 k2 k3]
  simp [contOK, ha1, ha2, hb1, hb2, hd1, hd2, validD_nil]
theorem lead_split (c : UInt8) (l : List UInt8) (hc : 128 ≤ c.toNat) (hv : validD (c :: l) = true) : ∃ cs l2, l = cs ++ l2 ∧ Tail c cs ∧ validD l2 = true := by
  have c0 : ¬ c.toNat < 128 := by omega
  by_cases c1 : c.toNat < 194
  · rw [valid_bad c l hc (by simp [firstT, c0, c1])] at hv; cases hv
  by_cases c2 : c.toNat < 224
  · exact split1 hc (by omega) c2 (Nat.le_refl 128) (Nat.le_refl 191) (by simp [firstT, c0, c1, c2]) (by simp [firstT, accLo, c0, c1, c2]) (by simp [firstT, accHi, c0, c1, c2]) hv
  by_cases c3 : c.toNat = 224
  · exact split2 (lo := 160) (hi := 191) hc (by omega) (by omega) (by omega) (by omega) (by omega) (by omega) (by rw [c3]; decide) (by rw [c3]; decide) (by rw [c3]; decide) hv
  by_cases c4 : c.toNat < 237
  · exact split2 (lo := 128) (hi := 191) hc (by omega) (by omega) (by omega) (by omega) (by omega) (by omega) (by simp [firstT, c0, c1, c2, c3, c4]) (by simp [firstT, accLo, c0, c1, c2, c3, c4]) (by simp [firstT, accHi, c0, c1, c2, c3, c4]) hv
  by_cases c5 : c.toNat = 237
  · exact split2 (lo := 128) (hi := 159) hc (by omega) (by omega) (by omega) (by omega) (by omega) (by omega) (by rw [c5]; decide) (by rw [c5]; decide) (by rw [c5]; decide) hv
  by_cases c6 : c.toNat < 240
  · exact split2 (lo := 128) (hi := 191) hc (by omega) (by omega) (by omega) (by omega) (by omega) (by omega) (by simp [firstT, c0, c1, c2, c3, c4, c5, c6]) (by simp [firstT, accLo, c0, c1, c2, c3, c4, c5, c6]) (by simp [firstT, accHi, c0, c1, c2, c3, c4, c5, c6]) hv
  by_cases c7 : c.toNat = 240
  · exact split3 (lo := 144) (hi := 191) hc (by omega) (by omega) (by omega) (by omega) (by omega) (by omega) (by rw [c7]; decide) (by rw [c7]; decide) (by rw [c7]; decide) hv
  by_cases c8 : c.toNat < 244
  · exact split3 (lo := 128) (hi := 191) hc (by omega) (by omega) (by omega) (by omega) (by omega) (by omega) (by simp [firstT, c0, c1, c2, c3, c4, c5, c6, c7, c8]) (by simp [firstT, accLo, c0, c1, c2, c3, c4, c5, c6, c7, c8]) (by simp [firstT, accHi, c0, c1, c2, c3, c4, c5, c6, c7, c8]) hv
  by_cases c9 : c.toNat = 244
  · exact split3 (lo := 128) (hi := 143) hc (by omega) (by omega) (by omega) (by omega) (by omega) (by omega) (by rw [c9]; decide) (by rw [c9]; decide) (by rw [c9]; decide) hv
  · rw [valid_bad c l hc (by simp [firstT, c0, c1, c2, c3, c4, c5, c6, c7, c8, c9])] at hv; cases hv
end Go.Proofs.YthhdadfnkdjmkaaGreatDoor
namespace Go.Proofs.YthhdadfnkdjmkaaGreatDoor
open Go.ChangeShapes Go.WideShapes Go.ChangeAt Go.RowKit
attribute [local go_sem ↓] Go.wp_at_zero Go.wp_at_succ
variable {w : World}

/-- What a method of the reader leaves: the code; where that is 0 what was read besides, and what is left. -/
def After (w : World) (b : Nat) (text : List UInt8) (x : Int × List UInt8 × List UInt8) (e : Ending) (w' : World) : Prop := e = .returned (.int .i64 x.1) ∧ (x.1 = 0 → ∃ v, Rdr w' b x.2.2 v (text ++ x.2.1)) ∧ Below b w w'
theorem After.of_reads {w : World} {b : Nat} {text m rest : List UInt8} {e : Ending} {w' : World} (h : Reads w b rest (text ++ m) 0 e w') : After w b text (0, m, rest) e w' := ⟨h.1, fun _ => h.2.1, h.2.2⟩
theorem rune_vals (n : Int) : Lib.runeCells n = vals (Lib.encodeRune n) ∧ 0 < (Lib.encodeRune n).length ∧ (Lib.encodeRune n).length ≤ 4 := by
  have h1 := Lib.byteCells_encodeRune n
  have h2 := Lib.runeCells_le n
  rw [Lib.runeCells_length] at h2
  exact ⟨h1.symm, h2.1, h2.2⟩
def byNumF (l : List UInt8) : Int × List UInt8 × List UInt8 :=
  if (numF 4 0 l).1 ≠ 0 then ((numF 4 0 l).1, [], [])
  else if firstB (numF 4 0 l).2.1 = true then
    (if (otherF (numF 4 0 l).2.1 (numF 4 0 l).2.2).1 ≠ 0 then ((otherF (numF 4 0 l).2.1 (numF 4 0 l).2.2).1, [], []) else (0, Lib.encodeRune (otherF (numF 4 0 l).2.1 (numF 4 0 l).2.2).2.1, (otherF (numF 4 0 l).2.1 (numF 4 0 l).2.2).2.2))
  else if secondB (numF 4 0 l).2.1 = true then (10, [], []) else (0, Lib.encodeRune (numF 4 0 l).2.1, (numF 4 0 l).2.2)
theorem otherF_bd (f : Int) (l : List UInt8) (h0 : 55296 ≤ f) (h1 : f < 56320) : ((otherF f l).1 ≠ 0 → (otherF f l).2.1 = 0) ∧ ((otherF f l).1 = 0 → 65536 ≤ (otherF f l).2.1 ∧ (otherF f l).2.1 ≤ 1114111) := by
  unfold otherF
  by_cases a : l.isPrefixOf [92, 117] = true
  · rw [if_pos a]; exact ⟨fun _ => rfl, fun e => by simp at e⟩
  rw [if_neg a]
  by_cases b : ([92, 117] : List UInt8).isPrefixOf l = false
  · rw [if_pos b]; exact ⟨fun _ => rfl, fun e => by simp at e⟩
  rw [if_neg b]
  generalize numF 4 0 (l.drop 2) = F
  by_cases c : F.1 ≠ 0
  · rw [if_pos c]; exact ⟨fun _ => rfl, fun e => absurd e c⟩
  rw [if_neg c]
  by_cases d : secondB F.2.1 = false
  · rw [if_pos d]; exact ⟨fun _ => rfl, fun e => by simp at e⟩
  rw [if_neg d]
  have hs : 56320 ≤ F.2.1 ∧ F.2.1 < 57344 := by
    cases hb : secondB F.2.1 with
    | false => exact absurd hb d
    | true => exact of_decide_eq_true hb
  exact ⟨fun e => absurd rfl e, fun _ => by dsimp only; omega⟩
theorem byNum_err (l : List UInt8) (h : (numF 4 0 l).1 ≠ 0) : byNumF l = ((numF 4 0 l).1, [], []) := by rw [byNumF, if_pos h]
theorem byNum_one (l : List UInt8) (h : (numF 4 0 l).1 = 0) (h1 : firstB (numF 4 0 l).2.1 = false) (h2 : secondB (numF 4 0 l).2.1 = false) : byNumF l = (0, Lib.encodeRune (numF 4 0 l).2.1, (numF 4 0 l).2.2) := by
  rw [byNumF, if_neg (by simpa using h), if_neg (by rw [h1]; simp), if_neg (by rw [h2]; simp)]
theorem byNum_sec (l : List UInt8) (h : (numF 4 0 l).1 = 0) (h1 : firstB (numF 4 0 l).2.1 = false) (h2 : secondB (numF 4 0 l).2.1 = true) : byNumF l = (10, [], []) := by
  rw [byNumF, if_neg (by simpa using h), if_neg (by rw [h1]; simp), if_pos h2]
theorem byNum_pair (l : List UInt8) (h : (numF 4 0 l).1 = 0) (h1 : firstB (numF 4 0 l).2.1 = true) : byNumF l = if (otherF (numF 4 0 l).2.1 (numF 4 0 l).2.2).1 ≠ 0 then ((otherF (numF 4 0 l).2.1 (numF 4 0 l).2.2).1, [], []) else (0, Lib.encodeRune (otherF (numF 4 0 l).2.1 (numF 4 0 l).2.2).2.1, (otherF (numF 4 0 l).2.1 (numF 4 0 l).2.2).2.2) := by
  rw [byNumF, if_neg (by simpa using h), if_pos h1]

set_option maxRecDepth 100000 in
set_option maxHeartbeats 2000000 in
theorem byNumber_all (b : Nat) (l : List UInt8) (v : Value) (text : List UInt8) (w : World) (hl : text.length ≤ 100000) (h : Rdr w b l v text) :
    Calls Tryz.prog 145 #[.pointer (some ⟨b, 0, none⟩)] w (After w b text (byNumF l)) := by
  have HN := Lib.hid (number_all b l v text w h)
  have he := numF_err 4 0 l
  have hb := numF_four l
  have k0 := byNum_err l
  have k1 := byNum_one l
  have k2 := byNum_sec l
  have k3 := byNum_pair l
  have hlt := lt_of_at h.box
  clear h
  generalize byNumF l = Z at *
  generalize numF 4 0 l = F at *
  obtain ⟨x, n, r⟩ := F
  dsimp only at HN he hb k0 k1 k2 k3
  obtain ⟨n0, n1⟩ := hb
  have hn2 : n ≤ 2000000 := by omega
  by_cases hx : x = 0
  · subst hx
    have HS := Lib.hid (fun W => second_all n W n0 hn2)
    have HF := Lib.hid (fun W => first_all n W n0 hn2)
    cases hf : firstB n with
    | false =>
      rw [hf] at HF
      cases hs : secondB n with
      | true =>
        rw [hs] at HS
        have HX := Lib.hid (k2 rfl hf hs)
        clear k0 k1 k2 k3 he hf hs
        go_enter Tryz.func145, Tryz.ntmps145
        go_wp2_with fail
        refine HN.out.mono ?_
        rintro e w1 ⟨rfl, hr, hb1⟩
        have HB1 := Lib.hid hb1
        clear hr hb1
        go_wp2_with fail
        refine (HF.out _).mono ?_
        rintro e w' ⟨rfl, rfl⟩
        go_wp2_with fail
        refine (HS.out _).mono ?_
        rintro e w' ⟨rfl, rfl⟩
        go_wp2
        go_ret
        rw [HX.out]
        exact ⟨rfl, (fun e => by simp at e), HB1.out⟩
      | false =>
        rw [hs] at HS
        have HX := Lib.hid (k1 rfl hf hs)
        have hrv := rune_vals n
        have HRV := Lib.hid hrv
        clear k0 k1 k2 k3 he hf hs hrv
        go_enter Tryz.func145, Tryz.ntmps145
        go_wp2_with fail
        refine HN.out.mono ?_
        rintro e w1 ⟨rfl, hr, hb1⟩
        have HR := Lib.hid (hr trivial)
        have HB1 := Lib.hid hb1
        have c1 := HR.out.c1
        have hlt1 := lt_of_at HR.out.box
        clear hr hb1
        go_wp2_with fail
        refine (HF.out _).mono ?_
        rintro e w' ⟨rfl, rfl⟩
        go_wp2_with fail
        refine (HS.out _).mono ?_
        rintro e w' ⟨rfl, rfl⟩
        go_wp2_with fail
        refine (rune_any (b + 1) v text (Lib.encodeRune n) n _ n0 (by omega) (by omega) (by omega) HR.out.buf HRV.out.1 HRV.out.2.1).mono ?_
        rintro e w2 ⟨g2, m2, q2, rfl, hb2, hg2⟩
        have HP := Lib.hid (HR.out.push hb2 hg2)
        clear hb2 hg2
        have d1 := HP.out.c1
        have d2 := HP.out.f1
        have d3 := HP.out.lt
        go_wp2
        go_ret
        rw [HX.out]
        exact ⟨rfl, fun _ => ⟨_, HP.out.rdr⟩, HB1.out.trans HP.out.below⟩
    | true =>
      rw [hf] at HF
      have hfn := of_decide_eq_true hf
      have k4 := k3 rfl hf
      have ho := otherF_bd n r hfn.1 hfn.2
      have HO := Lib.hid (fun W h => other_all b n r v text W hfn.1 hfn.2 h)
      clear k0 k1 k2 k3 he hf HS
      generalize otherF n r = G at *
      obtain ⟨y, m, r2⟩ := G
      dsimp only at k4 ho HO
      by_cases hy : y = 0
      · subst hy
        rw [if_neg (by simp)] at k4
        have HX := Lib.hid k4
        have hm := ho.2 rfl
        obtain ⟨m0, m1⟩ := hm
        have HS2 := Lib.hid (fun W => second_all m W (by omega) (by omega))
        have hs2 : secondB m = false := decide_eq_false (by omega)
        rw [hs2] at HS2
        have HRV := Lib.hid (rune_vals m)
        clear k4 ho hs2 hfn
        go_enter Tryz.func145, Tryz.ntmps145
        go_wp2_with fail
        refine HN.out.mono ?_
        rintro e w1 ⟨rfl, hr, hb1⟩
        have HR := Lib.hid (hr trivial)
        have HB1 := Lib.hid hb1
        clear hr hb1
        go_wp2_with fail
        refine (HF.out _).mono ?_
        rintro e w' ⟨rfl, rfl⟩
        go_wp2_with fail
        refine (HO.out _ HR.out).mono ?_
        rintro e w2 ⟨rfl, hr, hb1⟩
        have HR2 := Lib.hid (hr trivial)
        have HB2 := Lib.hid (HB1.out.trans hb1)
        have c1 := HR2.out.c1
        have hlt1 := lt_of_at HR2.out.box
        clear hr hb1 HR HB1
        go_wp2_with fail
        refine (HS2.out _).mono ?_
        rintro e w' ⟨rfl, rfl⟩
        go_wp2_with fail
        refine (rune_any (b + 1) v text (Lib.encodeRune m) m _ (by omega) (by omega) (by omega) (by omega) HR2.out.buf HRV.out.1 HRV.out.2.1).mono ?_
        rintro e w3 ⟨g2, m2, q2, rfl, hb2, hg2⟩
        have HP := Lib.hid (HR2.out.push hb2 hg2)
        clear hb2 hg2
        have d1 := HP.out.c1
        have d2 := HP.out.f1
        have d3 := HP.out.lt
        go_wp2
        go_ret
        rw [HX.out]
        exact ⟨rfl, fun _ => ⟨_, HP.out.rdr⟩, HB2.out.trans HP.out.below⟩
      · rw [if_pos hy] at k4
        have HX := Lib.hid k4
        obtain rfl := ho.1 hy
        have e0 : (y != 0) = true := by simpa using hy
        have HY := Lib.hid hy
        clear k4 ho hfn hy
        go_enter Tryz.func145, Tryz.ntmps145
        go_wp2_with fail
        refine HN.out.mono ?_
        rintro e w1 ⟨rfl, hr, hb1⟩
        have HR := Lib.hid (hr trivial)
        have HB1 := Lib.hid hb1
        clear hr hb1
        go_wp2_with fail
        refine (HF.out _).mono ?_
        rintro e w' ⟨rfl, rfl⟩
        go_wp2_with fail
        refine (HO.out _ HR.out).mono ?_
        rintro e w2 ⟨rfl, hr, hb1⟩
        have HB2 := Lib.hid (HB1.out.trans hb1)
        clear hr hb1
        go_wp2
        go_ret
        rw [HX.out]
        exact ⟨rfl, (fun e => absurd e HY.out), HB2.out⟩
  · obtain rfl := he hx
    have HF := Lib.hid (fun W => first_all 0 W (by omega) (by omega))
    have hf : firstB 0 = false := by decide
    rw [hf] at HF
    have HX := Lib.hid (k0 hx)
    have e0 : (x != 0) = true := by simpa using hx
    have HY := Lib.hid hx
    clear k0 k1 k2 k3 he hf hx
    go_enter Tryz.func145, Tryz.ntmps145
    go_wp2_with fail
    refine HN.out.mono ?_
    rintro e w1 ⟨rfl, hr, hb1⟩
    have HB1 := Lib.hid hb1
    clear hr hb1
    go_wp2_with fail
    refine (HF.out _).mono ?_
    rintro e w' ⟨rfl, rfl⟩
    go_wp2
    go_ret
    rw [HX.out]
    exact ⟨rfl, (fun e => absurd e HY.out), HB1.out⟩
end Go.Proofs.YthhdadfnkdjmkaaGreatDoor
namespace Go.Proofs.YthhdadfnkdjmkaaGreatDoor
open Go.ChangeShapes Go.WideShapes Go.ChangeAt Go.RowKit
attribute [local go_sem ↓] Go.wp_at_zero Go.wp_at_succ
variable {w : World}

set_option maxRecDepth 100000 in
set_option maxHeartbeats 1000000 in
theorem escape_47 (b : Nat) (rest : List UInt8) (v : Value) (text : List UInt8) (w : World) (hl : text.length ≤ 1000000) (h : Rdr w b (47 :: rest) v text) : Calls Tryz.prog 127 #[.pointer (some ⟨b, 0, none⟩)] w (Reads w b rest (text ++ [47]) 0) := by
  obtain ⟨i0, hi, hz0, hz1, hz2⟩ := info_parts info5
  have c0 := h.c0
  have c1 := h.c1
  have f0 := h.f0
  have f1 := h.f1
  have H1 := Lib.hid (h.set0 (r2 := rest))
  have hbw := lt_of_at h.box
  obtain ⟨p1, p2, p3, p4⟩ := bs_cons 47 rest
  generalize bs (47 :: rest) = r at *
  generalize bs rest = r1 at *
  clear h
  go_enter Tryz.func127, Tryz.ntmps127
  go_wp2_with (first
    | (at_builtin; refine wpList_append_lies _ rfl _ _ 145 rfl (b + 1) 5 i0 (.int .u8 0) 1 1 Tryz.underlying145 hi hz0 hz1 hz2 rfl (by decide) v text.length (vals text) rfl (H1.out.buf.alloc _) ⟨w.heap.size, 0, none⟩ 1 1 (vals [47]) rfl rfl (news_set w _ _ _ _ rfl) (vals_one _) (by decide) (by unfold maxLen; omega) (by omega) (by simp; omega) (w.heap.size + 1) (by simp) ?_; intro g cap w2 hown hgrow hat hlt; have HP := Lib.hid (H1.out.push (Buf.more hown rfl) (grown_alloc hgrow)); clear hown hgrow hat hlt; have d1 := HP.out.c1; have d2 := HP.out.f1; have d3 := HP.out.lt))
  go_ret
  exact ⟨rfl, ⟨_, HP.out.rdr⟩, Rdr.below0.trans HP.out.below⟩
/-- Behind a \\. -/
def escF (l : List UInt8) : Int × List UInt8 × List UInt8 := match l with
  | [] => (11, [], [])
  | c :: r => if c = 98 then (0, [8], r) else if c = 102 then (0, [12], r) else if c = 110 then (0, [10], r) else if c = 114 then (0, [13], r) else if c = 116 then (0, [9], r)
    else if c = 34 then (0, [34], r) else if c = 92 then (0, [92], r) else if c = 47 then (0, [47], r) else if c = 117 then byNumF r else (6, [], [])
theorem escape_num (b : Nat) (rest : List UInt8) (v : Value) (text : List UInt8) (w : World) (hl : text.length ≤ 100000) (h : Rdr w b (117 :: rest) v text) :
    Calls Tryz.prog 127 #[.pointer (some ⟨b, 0, none⟩)] w (After w b text (byNumF rest)) := by
  have c0 := h.c0
  have f0 := h.f0
  have hbw := lt_of_at h.box
  have HN := Lib.hid (byNumber_all b rest v text _ hl (h.set0 (r2 := rest)))
  obtain ⟨p1, p2, p3, p4⟩ := bs_cons 117 rest
  generalize bs (117 :: rest) = r at *
  generalize bs rest = r1 at *
  generalize byNumF rest = Z at *
  obtain ⟨x, m, r2⟩ := Z
  clear h
  go_enter Tryz.func127, Tryz.ntmps127
  go_wp2_with fail
  refine HN.out.mono ?_
  rintro e w2 ⟨rfl, hr2, hb2⟩
  have HR := Lib.hid hr2
  have HB := Lib.hid hb2
  clear hr2 hb2
  dsimp only
  go_wp2
  go_ret
  exact ⟨rfl, HR.out, Rdr.below0.trans HB.out⟩
theorem escape_none (b : Nat) (v : Value) (text : List UInt8) (w : World) (h : Rdr w b [] v text) :
    Calls Tryz.prog 127 #[.pointer (some ⟨b, 0, none⟩)] w (After w b text (11, [], [])) := by
  have c0 := h.c0
  have e0 : bs [] = ⟨#[]⟩ := rfl
  rw [e0] at c0
  clear h e0
  go_enter Tryz.func127, Tryz.ntmps127
  go_wp2
  go_ret
  exact ⟨rfl, (fun e => by simp at e), Below.refl _ _⟩
theorem escape_bad (b : Nat) (c : UInt8) (rest : List UInt8) (v : Value) (text : List UInt8) (w : World) (hc : ∀ d ∈ ([98, 102, 110, 114, 116, 34, 92, 47, 117] : List UInt8), c ≠ d) (h : Rdr w b (c :: rest) v text) :
    Calls Tryz.prog 127 #[.pointer (some ⟨b, 0, none⟩)] w (After w b text (6, [], [])) := by
  have c0 := h.c0
  have f0 := h.f0
  have hbw := lt_of_at h.box
  have ne : ∀ d : UInt8, d ∈ ([98, 102, 110, 114, 116, 34, 92, 47, 117] : List UInt8) → ((c.toNat : Int) == (d.toNat : Int)) = false := fun d hd => by
    rw [beq_eq_false_iff_ne]
    intro e
    exact hc d hd (UInt8.toNat_inj.1 (by omega))
  have n1 : ((c.toNat : Int) == 98) = false := ne 98 (by decide)
  have n2 : ((c.toNat : Int) == 102) = false := ne 102 (by decide)
  have n3 : ((c.toNat : Int) == 110) = false := ne 110 (by decide)
  have n4 : ((c.toNat : Int) == 114) = false := ne 114 (by decide)
  have n5 : ((c.toNat : Int) == 116) = false := ne 116 (by decide)
  have n6 : ((c.toNat : Int) == 34) = false := ne 34 (by decide)
  have n7 : ((c.toNat : Int) == 92) = false := ne 92 (by decide)
  have n8 : ((c.toNat : Int) == 47) = false := ne 47 (by decide)
  have n9 : ((c.toNat : Int) == 117) = false := ne 117 (by decide)
  obtain ⟨p1, p2, p3, p4⟩ := bs_cons c rest
  generalize bs (c :: rest) = r at *
  generalize bs rest = r1 at *
  clear h hc ne
  go_enter Tryz.func127, Tryz.ntmps127
  go_wp2
  go_ret
  exact ⟨rfl, (fun e => by simp at e), Rdr.below0⟩
theorem escape_all (b : Nat) (l : List UInt8) (v : Value) (text : List UInt8) (w : World) (hl : text.length ≤ 100000) (h : Rdr w b l v text) :
    Calls Tryz.prog 127 #[.pointer (some ⟨b, 0, none⟩)] w (After w b text (escF l)) := by
  have hl2 : text.length ≤ 1000000 := by omega
  rcases l with _ | ⟨c, r⟩
  · exact escape_none b v text w h
  by_cases c1 : c = 98
  · subst c1; rw [escF, if_pos rfl]; exact (escape_98 b r v text w hl2 h).mono fun _ _ => After.of_reads
  by_cases c2 : c = 102
  · subst c2; rw [escF, if_neg c1, if_pos rfl]; exact (escape_102 b r v text w hl2 h).mono fun _ _ => After.of_reads
  by_cases c3 : c = 110
  · subst c3; rw [escF, if_neg c1, if_neg c2, if_pos rfl]; exact (escape_110 b r v text w hl2 h).mono fun _ _ => After.of_reads
  by_cases c4 : c = 114
  · subst c4; rw [escF, if_neg c1, if_neg c2, if_neg c3, if_pos rfl]; exact (escape_114 b r v text w hl2 h).mono fun _ _ => After.of_reads
  by_cases c5 : c = 116
  · subst c5; rw [escF, if_neg c1, if_neg c2, if_neg c3, if_neg c4, if_pos rfl]; exact (escape_116 b r v text w hl2 h).mono fun _ _ => After.of_reads
  by_cases c6 : c = 34
  · subst c6; rw [escF, if_neg c1, if_neg c2, if_neg c3, if_neg c4, if_neg c5, if_pos rfl]; exact (escape_34 b r v text w hl2 h).mono fun _ _ => After.of_reads
  by_cases c7 : c = 92
  · subst c7; rw [escF, if_neg c1, if_neg c2, if_neg c3, if_neg c4, if_neg c5, if_neg c6, if_pos rfl]; exact (escape_92 b r v text w hl2 h).mono fun _ _ => After.of_reads
  by_cases c8 : c = 47
  · subst c8; rw [escF, if_neg c1, if_neg c2, if_neg c3, if_neg c4, if_neg c5, if_neg c6, if_neg c7, if_pos rfl]; exact (escape_47 b r v text w hl2 h).mono fun _ _ => After.of_reads
  by_cases c9 : c = 117
  · subst c9; rw [escF, if_neg c1, if_neg c2, if_neg c3, if_neg c4, if_neg c5, if_neg c6, if_neg c7, if_neg c8, if_pos rfl]; exact escape_num b r v text w hl h
  rw [escF, if_neg c1, if_neg c2, if_neg c3, if_neg c4, if_neg c5, if_neg c6, if_neg c7, if_neg c8, if_neg c9]
  refine escape_bad b c r v text w (fun d hd => ?_) h
  simp only [List.mem_cons, List.not_mem_nil, or_false] at hd
  rcases hd with rfl | rfl | rfl | rfl | rfl | rfl | rfl | rfl | rfl <;> assumption
/-- How many bytes the first character takes. -/
def chLen (l : List UInt8) : Nat := (Lib.decodeGo (bs l)).2
theorem chLen_bd (l : List UInt8) (h : l ≠ []) : 1 ≤ chLen l ∧ chLen l ≤ l.length ∧ chLen l ≤ 4 := by
  have hl : 0 < l.length := List.length_pos_iff.2 h
  rw [chLen, dec_bs l h]
  unfold Lib.decodeN
  repeat' split
  all_goals first | (dsimp only; omega) | (simp; omega)
/-- A character: the code, its bytes, what is left. -/
def chrF (l : List UInt8) : Int × List UInt8 × List UInt8 := match l with
  | [] => (11, [], [])
  | c :: r => if c = 92 then escF r else if c.toNat < 32 ∨ Lib.validD ((c :: r).take (chLen (c :: r))) = false then (10, [], []) else (0, (c :: r).take (chLen (c :: r)), (c :: r).drop (chLen (c :: r)))
theorem char_none (b : Nat) (v : Value) (text : List UInt8) (w : World) (h : Rdr w b [] v text) :
    Calls Tryz.prog 101 #[.pointer (some ⟨b, 0, none⟩)] w (After w b text (11, [], [])) := by
  have c0 := h.c0
  have e0 : bs [] = ⟨#[]⟩ := rfl
  rw [e0] at c0
  clear h e0
  go_enter Tryz.func101, Tryz.ntmps101
  go_wp2
  go_ret
  exact ⟨rfl, (fun e => by simp at e), Below.refl _ _⟩
theorem char_back (b : Nat) (rest : List UInt8) (v : Value) (text : List UInt8) (w : World) (hl : text.length ≤ 100000) (h : Rdr w b (92 :: rest) v text) :
    Calls Tryz.prog 101 #[.pointer (some ⟨b, 0, none⟩)] w (After w b text (escF rest)) := by
  have c0 := h.c0
  have f0 := h.f0
  have hbw := lt_of_at h.box
  have HN := Lib.hid (escape_all b rest v text _ hl (h.set0 (r2 := rest)))
  obtain ⟨p1, p2, p3, p4⟩ := bs_cons 92 rest
  generalize bs (92 :: rest) = r at *
  generalize bs rest = r1 at *
  generalize escF rest = Z at *
  obtain ⟨x, m, r2⟩ := Z
  clear h
  go_enter Tryz.func101, Tryz.ntmps101
  go_wp2_with fail
  refine HN.out.mono ?_
  rintro e w2 ⟨rfl, hr2, hb2⟩
  have HR := Lib.hid hr2
  have HB := Lib.hid hb2
  clear hr2 hb2
  dsimp only
  go_wp2
  go_ret
  exact ⟨rfl, HR.out, Rdr.below0.trans HB.out⟩
set_option maxRecDepth 100000 in
set_option maxHeartbeats 2000000 in
theorem char_bad (b : Nat) (c : UInt8) (r : List UInt8) (v : Value) (text : List UInt8) (w : World) (hT : Tabs w) (hc : c.toNat ≠ 92) (hb : c.toNat < 32 ∨ Lib.validD ((c :: r).take (chLen (c :: r))) = false) (h : Rdr w b (c :: r) v text) :
    Calls Tryz.prog 101 #[.pointer (some ⟨b, 0, none⟩)] w (After w b text (10, [], [])) := by
  have c0 := h.c0
  have HR := Lib.hid h
  have HT := Lib.hid hT
  have HB0 := Lib.hid (Nat.le_of_lt (lt_of_at h.box))
  have hlen := chLen_bd (c :: r) (by simp)
  have e1 : ((c.toNat : Int) == 92) = false := by rw [beq_eq_false_iff_ne]; omega
  have q1 : (bs (c :: r)).extract 0 (chLen (c :: r)) = bs ((c :: r).take (chLen (c :: r))) := bs_take _ _
  have q2 : ((chLen (c :: r) : Nat) : Int) ≤ ((bs (c :: r)).size : Int) := by rw [bs_size]; omega
  have HDE : Hid (∀ W, Tabs W → Calls Tryz.prog 128 #[.string (bs (c :: r))] W fun e w' => (∃ x : Int, e = .returned (.tuple #[.int .i32 x, .int .i64 ((chLen (c :: r) : Nat) : Int)])) ∧ Fresh W w') := fun W hW => by
    refine (decode_any _ W hW).mono ?_
    rintro e w' ⟨he, hf⟩
    exact ⟨⟨_, he⟩, hf⟩
  have HV := Lib.hid (fun W hW => isValid_any (bs ((c :: r).take (chLen (c :: r)))) W (by rw [bs_size, List.length_take]; omega) hW)
  rw [bs_toList] at HV
  obtain ⟨p1, p2, _, p4⟩ := bs_cons c r
  have hq : 0 < chLen (c :: r) := by omega
  clear h hT hc
  generalize Lib.validD ((c :: r).take (chLen (c :: r))) = ok at *
  generalize bs ((c :: r).take (chLen (c :: r))) = q at *
  generalize chLen (c :: r) = n at *
  have HC0 : Hid (∀ W, Fresh w W → W.cell? ⟨b, 0, none⟩ = some (.string (bs (c :: r)))) := fun W f => (HR.out.fresh f).c0
  generalize bs (c :: r) = R at *
  clear hlen
  by_cases h32 : c.toNat < 32
  · have e2 : (c.toNat : Int) < 32 := by omega
    clear hb h32 HV
    go_enter Tryz.func101, Tryz.ntmps101
    go_wp2_with fail
    refine (HDE.out _ HT.out).mono ?_
    rintro e w1 ⟨⟨x, rfl⟩, hf1⟩
    have d0 := HC0.out _ hf1
    have HF1 := Lib.hid hf1
    clear hf1 c0
    go_wp2
    go_ret
    exact ⟨rfl, (fun e => by simp at e), Below.mono HF1.out HB0.out⟩
  · obtain rfl : ok = false := by rcases hb with hb | hb; exact absurd hb h32; exact hb
    have e2 : ¬ (c.toNat : Int) < 32 := by omega
    clear hb h32
    go_enter Tryz.func101, Tryz.ntmps101
    go_wp2_with fail
    refine (HDE.out _ HT.out).mono ?_
    rintro e w1 ⟨⟨x, rfl⟩, hf1⟩
    have d0 := HC0.out _ hf1
    have HF1 := Lib.hid hf1
    clear hf1 c0
    go_wp2_with fail
    refine (HV.out _ (HT.out.move HF1.out)).mono ?_
    rintro e w2 ⟨rfl, hf2⟩
    have HF2 := Lib.hid (HF1.out.trans hf2)
    clear hf2 d0
    go_wp2
    go_ret
    exact ⟨rfl, (fun e => by simp at e), Below.mono HF2.out HB0.out⟩
theorem char_all (b : Nat) (l : List UInt8) (v : Value) (text : List UInt8) (w : World) (hT : Tabs w) (hl : text.length ≤ 100000) (h : Rdr w b l v text) :
    Calls Tryz.prog 101 #[.pointer (some ⟨b, 0, none⟩)] w (After w b text (chrF l)) := by
  rcases l with _ | ⟨c, r⟩
  · exact char_none b v text w h
  by_cases hc : c = 92
  · subst hc
    rw [chrF, if_pos rfl]
    exact char_back b r v text w hl h
  have hc2 : c.toNat ≠ 92 := fun e => hc (UInt8.toNat_inj.1 e)
  by_cases hb : c.toNat < 32 ∨ Lib.validD ((c :: r).take (chLen (c :: r))) = false
  · rw [chrF, if_neg hc, if_pos hb]
    exact char_bad b c r v text w hT hc2 hb h
  · rw [chrF, if_neg hc, if_neg hb]
    have hlen := chLen_bd (c :: r) (by simp)
    have hv : Lib.validD ((c :: r).take (chLen (c :: r))) = true := by
      cases hv : Lib.validD ((c :: r).take (chLen (c :: r))) with
      | true => rfl
      | false => exact absurd (.inr hv) hb
    obtain ⟨n, hn⟩ : ∃ n, chLen (c :: r) = n + 1 := ⟨chLen (c :: r) - 1, by omega⟩
    have hd : (Lib.decodeGo (bs (c :: r))).2 = n + 1 := hn
    rw [hn] at hv hlen ⊢
    rw [List.take_succ_cons] at hv ⊢
    rw [List.drop_succ_cons]
    have hsp : c :: r = c :: r.take n ++ r.drop n := by simp
    rw [hsp] at h hd
    have hln : (c :: r.take n).length = n + 1 := by
      rw [List.length_cons, List.length_take]
      have := hlen.2.1
      rw [List.length_cons] at this
      omega
    have := char_plain b c (r.take n) (r.drop n) v text w hT (by omega) hc2 (by rw [hd, hln]) hv (by omega) hl h
    exact this.mono fun _ _ => After.of_reads
end Go.Proofs.YthhdadfnkdjmkaaGreatDoor

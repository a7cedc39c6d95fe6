/-
  The statement JlexAgain, walked.
-/
import Derived.Test.YtajmhllldocpjaaDoorShow
import Derived.Test.YtajmhllldocpjaaDoorWalk
namespace Go.Proofs.YtajmhllldocpjaaDoor
open Go.ChangeShapes Go.WideShapes Go.ChangeAt Go.RowKit
attribute [local go_sem ↓] Go.wp_at_zero Go.wp_at_succ
variable {w : World}

theorem tcells_len (l : List Tok) : (tcells l).length = 4 * l.length := by
  induction l with
  | nil => rfl
  | cons t l ih => 
    show (tcell t ++ tcells l).length = _
    rw [List.length_append, ih, List.length_cons]
    show 4 + _ = _
    omega
theorem tcells_at : ∀ (l : List Tok) (k : Nat) (t : Tok), l[k]? = some t → ∀ j, j < 4 → (tcells l)[4 * k + j]? = (tcell t)[j]?
  | [], k, t, h, _, _ => by simp at h
  | x :: l, 0, t, h, j, hj => by
    injection h with h
    subst h
    show (tcell x ++ tcells l)[4 * 0 + j]? = _
    rw [Nat.mul_zero, Nat.zero_add, List.getElem?_append_left (by show j < 4; exact hj)]
  | x :: l, k + 1, t, h, j, hj => by
    show (tcell x ++ tcells l)[4 * (k + 1) + j]? = _
    rw [List.getElem?_append_right (by show 4 ≤ _; omega)]
    have : 4 * (k + 1) + j - (tcell x).length = 4 * k + j := by show 4 * (k + 1) + j - 4 = _; omega
    rw [this]
    exact tcells_at l k t h j hj
/-- The cells of a word in a row. -/
structure WordAt (w : World) (g k : Nat) (t : Tok) : Prop where
  c0 : w.cell? ⟨g, k * 4, none⟩ = some (.int .i64 t.kind)
  c1 : w.cell? ⟨g, k * 4 + 1, none⟩ = some (.string (bs t.text))
  c2 : w.cell? ⟨g, k * 4 + 2, none⟩ = some (.int .i64 t.int)
  c3 : w.cell? ⟨g, k * 4 + 3, none⟩ = some (.int .i64 (t.at_ : Int))
theorem TBuf.word {w : World} {B g n cap : Nat} {l : List Tok} (h : TBuf w B (.slice (some ⟨g, 0, none⟩) n cap) l) (k : Nat) (t : Tok) (ht : l[k]? = some t) : WordAt w g k t := by
  have hc := fun j (hj : j < 4) v hv => World.ownsRow.cells h rfl (4 * k + j) v ((tcells_at l k t ht j hj).trans hv)
  have hadd : ∀ n : Nat, ((⟨g, 0, none⟩ : Addr).add n) = ⟨g, n, none⟩ := fun n => by
    unfold Addr.add
    by_cases h : n = 0
    · subst h; rfl
    · simp [h]
  simp only [hadd, Nat.mul_comm 4 k] at hc
  exact ⟨hc 0 (by omega) _ rfl, hc 1 (by omega) _ rfl, hc 2 (by omega) _ rfl, hc 3 (by omega) _ rfl⟩
theorem WordAt.fresh {w w' : World} {B g n cap : Nat} {l : List Tok} (hb : TBuf w B (.slice (some ⟨g, 0, none⟩) n cap) l) (f : Fresh w w') (k : Nat) (t : Tok) (ht : l[k]? = some t) : WordAt w' g k t := (hb.fresh f).word k t ht
/-- Words as the law asks them. -/
structure Words (L : List Tok) (n : Nat) : Prop where
  good : ∀ t ∈ L, GoodT t ∨ t = ⟨11, [], 0, t.at_⟩
  low : ∀ t ∈ L, t.at_ ≤ n
  rise : ∀ k x y, L[k]? = some x → L[k + 1]? = some y → x.at_ < y.at_
theorem rise_at : ∀ (ts : List Tok) (a z : Nat), Rise a ts z → (∀ t ∈ ts, t.at_ < z) ∧ ∀ k x y, (ts ++ [⟨11, [], 0, z⟩])[k]? = some x → (ts ++ [⟨11, [], 0, z⟩])[k + 1]? = some y → x.at_ < y.at_
  | [], a, z, h => ⟨by simp, fun k x y _ hy => by simp at hy⟩
  | t :: ts, a, z, h => by
    have ih := rise_at ts _ z h.2
    have hle := Rise.le h.2
    refine ⟨fun x hx => ?_, fun k x y hx hy => ?_⟩
    · rcases List.mem_cons.1 hx with rfl | hx
      · omega
      · exact ih.1 x hx
    · rcases k with _ | k
      · simp only [List.cons_append, List.getElem?_cons_zero, Option.some.injEq] at hx
        subst hx
        rw [List.cons_append, List.getElem?_cons_succ] at hy
        cases ts with
        | nil =>
          simp at hy
          subst hy
          show t.at_ < z
          omega
        | cons u us =>
          simp only [List.cons_append, List.getElem?_cons_zero, Option.some.injEq] at hy
          subst hy
          have := h.2.1
          omega
      · rw [List.cons_append, List.getElem?_cons_succ] at hx hy
        exact ih.2 k x y hx hy
theorem words_of {ts : List Tok} {z n : Nat} (hg : ∀ t ∈ ts, GoodT t) (hr : Rise 0 ts z) (hz : z ≤ n) : Words (ts ++ [⟨11, [], 0, z⟩]) n := by
  have h := rise_at ts 0 z hr
  refine ⟨fun t ht => ?_, fun t ht => ?_, h.2⟩
  · rcases List.mem_append.1 ht with ht | ht
    · exact .inl (hg t ht)
    · rw [List.mem_singleton] at ht; subst ht; exact .inr rfl
  · rcases List.mem_append.1 ht with ht | ht
    · have := h.1 t ht; omega
    · rw [List.mem_singleton] at ht; subst ht; exact hz
theorem kind_bd {t : Tok} (h : GoodT t ∨ t = ⟨11, [], 0, t.at_⟩) : 0 ≤ t.kind ∧ t.kind ≤ 11 := by
  rcases h with (h | h | ⟨h, _⟩) | h
  · omega
  · omega
  · unfold SignN at h; omega
  · rw [h]; dsimp only; omega
theorem show_len {t : Tok} (h : GoodT t ∨ t = ⟨11, [], 0, t.at_⟩) : (showT t).length ≤ 30000 := by
  rcases h with (⟨h1, h2, h3, h4⟩ | ⟨h1, h2, h3, h4⟩ | ⟨h1, h2, h3⟩) | h
  · rw [showT, showK, if_pos h1, quoted, List.length_cons, List.length_append]
    have := qL_len t.text
    simp; omega
  · rw [showT, showK, if_neg (by omega), if_pos h1]
    have := decL_len _ h3 h4
    omega
  · unfold SignN at h1
    rw [showT, showK, if_neg (by omega), if_neg (by omega), if_neg (by omega)]
    have := signT_len t.kind
    omega
  · rw [h]; simp [showT, showK]
theorem shows_take (L : List Tok) (k : Nat) (t : Tok) (h : L[k]? = some t) : shows (L.take (k + 1)) = shows (L.take k) ++ (showT t ++ [32]) := by
  rw [← shows_snoc]
  congr 1
  obtain ⟨hk, rfl⟩ := List.getElem?_eq_some_iff.1 h
  rw [List.take_succ_eq_append_getElem hk]
theorem shows_le (L : List Tok) (k : Nat) : (shows (L.take k)).length ≤ (shows L).length := by
  have : shows L = shows (L.take k) ++ shows (L.drop k) := by
    have h := congrArg shows (List.take_append_drop k L)
    rw [← h, shows, List.flatMap_append]
    rw [← shows, ← shows]
  rw [this, List.length_append]; omega
theorem strip_same {M L : List Tok} (h : M.map strip = L.map strip) : ∀ (k : Nat) (x y : Tok), L[k]? = some x → M[k]? = some y → y.kind = x.kind ∧ bs y.text = bs x.text ∧ y.int = x.int := by
  intro k x y hx hy
  have h1 := congrArg (fun l => l[k]?) h
  simp only [List.getElem?_map, hx, hy, Option.map_some, Option.some.injEq, strip, Prod.mk.injEq] at h1
  obtain ⟨a, b, c⟩ := h1
  exact ⟨a, by rw [b], c⟩
/-- A concatenation, a blank behind. -/
theorem blank_app (a b : List UInt8) : bs a ++ (bs b ++ ⟨#[32]⟩) = bs (a ++ (b ++ [32])) := by
  have : (⟨#[32]⟩ : ByteArray) = bs [32] := rfl
  rw [this, bs_app, bs_app]
set_option maxRecDepth 100000 in
set_option maxHeartbeats 4000000 in
theorem again_main (s : List UInt8) (w : World) (hT : Tabs w) (hr : RangeVar w) : Calls Tryd.prog 4 #[.string (bs s)] w fun e w' => e = .returned (.bool true) ∧ Fresh w w' := by
  have HT := Lib.hid hT
  have HR := Lib.hid hr
  have HA : Hid (∀ W, Tabs W → RangeVar W → Calls Tryd.prog 5 #[] W fun e w' => e = .returned (.bool true) ∧ Fresh W w') := fun W h1 h2 => lawake_any W h1 h2
  have hsz := bs_size s
  clear hT hr
  by_cases hs : 3000 < (bs s).size
  · have hs' : (3000 : Int) < ((bs s).size : Int) := by omega
    clear hsz hs
    generalize bs s = q at *
    go_enter Tryd.func4, Tryd.ntmps4
    go_wp2_with fail
    refine (HA.out _ HT.out HR.out).mono ?_
    rintro e w1 ⟨rfl, hf1⟩
    have HF1 := Lib.hid hf1
    clear hf1
    go_wp2
    go_ret
    exact ⟨rfl, HF1.out⟩
  · have hs' : ¬ (3000 : Int) < ((bs s).size : Int) := by omega
    have hsl : s.length ≤ 3000 := by omega
    have HLX := Lib.hid (lex_any s w (by omega) HT.out HR.out)
    have HWO := Lib.hid (lexA_words (s.length + 1) s 0 [])
    generalize lexA (s.length + 1) s 0 [] = X at *
    obtain ⟨L, pa, code⟩ := X
    dsimp only at HLX HWO
    by_cases hc : code = 0
    · subst hc
      obtain ⟨ts, z, rfl, hgood, hrise, hz, hlen⟩ := HWO.out rfl
      rw [List.nil_append] at HLX
      have HW := Lib.hid (words_of hgood hrise (by omega : z ≤ s.length))
      have HAG := Lib.hid (lexA_again ts ((shows ts ++ [32]).length + 1) 0 [] [] (.inl rfl) hgood (by simp))
      have HSH : Hid (shows (ts ++ [⟨11, [], 0, z⟩]) = shows ts ++ [32]) := by rw [Hid, shows_snoc]; rfl
      have HSL : Hid ((shows (ts ++ [⟨11, [], 0, z⟩])).length ≤ 63001) := by rw [Hid, HSH.out, List.length_append, List.length_singleton]; omega
      have hL1 : (ts ++ [(⟨11, [], 0, z⟩ : Tok)]).length = ts.length + 1 := by simp
      have HL1 := Lib.hid hL1
      have HLN : Hid (ts.length + 1 ≤ 3001) := by
        have hb : ∀ (ts : List Tok) (a z : Nat), Rise a ts z → ts.length + a ≤ z := fun ts => by
          induction ts with
          | nil => intro a z h; have : a ≤ z := h; simpa using this
          | cons t ts ih => intro a z h; have := ih _ _ h.2; have := h.1; rw [List.length_cons]; omega
        have := hb ts 0 z hrise
        rw [Hid]; omega
      have HSIZE : Hid ((bs s).size = s.length) := hsz
      have HM : Hid (∃ M : List Tok, lexA ((shows (ts ++ [⟨11, [], 0, z⟩])).length + 1) (shows (ts ++ [⟨11, [], 0, z⟩])) 0 [] = (M, 0, 0) ∧ M.length = (ts ++ [(⟨11, [], 0, z⟩ : Tok)]).length ∧ M.map strip = (ts ++ [(⟨11, [], 0, z⟩ : Tok)]).map strip) := by
        obtain ⟨us, z2, h1, h2⟩ := HAG.out
        rw [List.nil_append, List.nil_append] at h1
        refine ⟨_, by rw [HSH.out]; exact h1, ?_, ?_⟩
        · have := congrArg List.length h2
          simpa using this
        · rw [List.map_append, List.map_append, h2]; rfl
      clear HAG
      clear hgood hrise hz hlen hsz hs hsl HWO
      generalize hLL : ts ++ [(⟨11, [], 0, z⟩ : Tok)] = L at *
      have HLL := Lib.hid hLL
      clear hLL
      have hln : L.length ≤ 3001 := by rw [hL1]; exact HLN.out
      clear hL1
      generalize hq : bs s = q at *
      have HQ := Lib.hid hq
      clear hq
      go_enter Tryd.func4, Tryd.ntmps4
      go_wp2_with fail
      refine HLX.out.mono ?_
      rintro e w1 ⟨he, hf1⟩
      rw [if_pos rfl] at he
      obtain ⟨B, g, cap, hB, rfl, hb⟩ := he
      have HF1 := Lib.hid hf1
      have HB := Lib.hid hb
      clear hf1 hb hB
      go_wp2
      go_loopw [6, 32] (fun a6 a32 wr => ∃ k : Nat, k ≤ L.length ∧ a6 = .string (bs (shows (L.take k))) ∧ a32 = .int .i64 (k : Int) ∧ Hid (Fresh w1 wr)) (fun _ a32 _ => L.length - (intOf a32).toNat)
      case atStart => exact ⟨0, Nat.zero_le _, rfl, rfl, Fresh.refl _⟩
      case round =>
        obtain ⟨k, hk, rfl, rfl, HF⟩ := hrel
        by_cases hlt : k < L.length
        · have hget : L[k]? = some L[k] := List.getElem?_eq_getElem hlt
          have hgood := HW.out.good L[k] (List.getElem_mem hlt)
          have hkb := kind_bd hgood
          have hlow : L[k].at_ ≤ q.size := by rw [HSIZE.out]; exact HW.out.low _ (List.getElem_mem hlt)
          have HSHOW := Lib.hid (fun W => show_any L[k] W hgood)
          have HOF := Lib.hid (fun W => of_any L[k].kind L[k].int (L[k].at_ : Int) (bs L[k].text) W)
          have HTK : Hid (shows (L.take (k + 1)) = shows (L.take k) ++ (showT L[k] ++ [32])) := shows_take L k _ hget
          have HWD := Lib.hid (fun W (h : Fresh w1 W) => WordAt.fresh HB.out h k L[k] hget)
          have HPREV : Hid (∀ j, k = j + 1 → ∀ W, Fresh w1 W → ∃ x : Tok, WordAt W g j x ∧ x.at_ < L[k].at_) := by
            intro j hj W h
            subst hj
            have hj2 : j < L.length := by omega
            exact ⟨L[j], WordAt.fresh HB.out h j _ (List.getElem?_eq_getElem hj2), HW.out.rise j _ _ (List.getElem?_eq_getElem hj2) hget⟩
          have c := HWD.out wr HF.out
          obtain ⟨c0, c1, c2, c3⟩ := c
          generalize L[k] = T at *
          obtain ⟨kd, tx, iv, pl⟩ := T
          dsimp only at hkb hlow c0 c1 c2 c3 HOF
          have hki0 : ¬ kd < 0 := by omega
          have hki1 : ¬ 11 < kd := by omega
          have hpl0 : pl ≤ q.size := hlow
          have hap := blank_app (shows (L.take k)) (showT ⟨kd, tx, iv, pl⟩)
          rw [← HTK.out] at hap
          have hs1 : (bs (shows (L.take k))).size ≤ 63001 := by rw [bs_size]; exact Nat.le_trans (shows_le L k) HSL.out
          have hs2 : (bs (showT ⟨kd, tx, iv, pl⟩)).size ≤ 30000 := by rw [bs_size]; exact show_len hgood
          have HSHOW2 : Hid (∀ W, Calls Tryd.prog 9 #[.agg #[.int .i64 kd, .string (bs tx), .int .i64 iv, .int .i64 (pl : Int)]] W (ShowIs W (bs (showT ⟨kd, tx, iv, pl⟩)))) := HSHOW.out
          clear HSHOW hgood HTK
          generalize bs (showT ⟨kd, tx, iv, pl⟩) = sh at *
          generalize bs (shows (L.take k)) = t0 at *
          generalize ht1 : bs (shows (L.take (k + 1))) = t1 at *
          have HT1 := Lib.hid ht1
          clear ht1
          generalize bs tx = xx at *
          have HF2 := Lib.hid (HF.out.alloc (.cells #[.int .i64 kd, .string xx, .int .i64 iv, .int .i64 (pl : Int)] 34))
          have hat := at_new wr (.cells #[.int .i64 kd, .string xx, .int .i64 iv, .int .i64 (pl : Int)] 34)
          have b0 := cell_of_at (i := 0) hat rfl
          have b1 := cell_of_at (i := 1) hat rfl
          have b2 := cell_of_at (i := 2) hat rfl
          have b3 := cell_of_at (i := 3) hat rfl
          rcases k with _ | j
          · clear HPREV
            simp only [Nat.zero_mul, Nat.zero_add] at c0 c1 c2 c3
            go_wp2
            generalize wr.alloc _ = W2 at *
            generalize wr.heap.size = bx at *
            have d0 : decide (kd < 0) = false := decide_eq_false (by omega)
            have d1 : decide (11 < kd) = false := decide_eq_false (by omega)
            have d2 : decide ((pl : Int) < 0) = false := decide_eq_false (by omega)
            have d3 : decide ((q.size : Int) < (pl : Int)) = false := decide_eq_false (by omega)
            have d3' : decide (q.size < pl) = false := decide_eq_false (by omega)
            go_quiet (fail)
            have HF3 : Hid (Fresh w1 (W2.drewN nq)) := below_drewN HF2.out nq
            have e0 : (W2.drewN nq).cell? ⟨bx, 0, none⟩ = some (.int .i64 kd) := b0
            have e1 : (W2.drewN nq).cell? ⟨bx, 1, none⟩ = some (.string xx) := b1
            have e2 : (W2.drewN nq).cell? ⟨bx, 2, none⟩ = some (.int .i64 iv) := b2
            have e3 : (W2.drewN nq).cell? ⟨bx, 3, none⟩ = some (.int .i64 (pl : Int)) := b3
            clear b0 b1 b2 b3
            generalize W2.drewN nq = W3 at *
            go_wp2_with fail
            refine (HOF.out _).mono ?_
            rintro e W4 ⟨rfl, hf4⟩
            have HF4 := Lib.hid (HF3.out.trans hf4)
            clear hf4
            go_wp2_with fail
            refine (HSHOW2.out _).mono ?_
            rintro e W5 ⟨rfl, hf5⟩
            have HF5 := Lib.hid (HF4.out.trans hf5)
            clear hf5
            go_wp2
            go_roundw
            case rel => exact ⟨0 + 1, by omega, by rw [HT1.out], by go_num, HF5.out⟩
            case measure => simp [intOf]; omega
          · obtain ⟨x, hx, hpl⟩ := HPREV.out j rfl _ HF2.out
            have hpc := hx.c3
            generalize x.at_ = p at *
            have hj : (j : Int) + 1 < (L.length : Int) := by omega
            have HPL := Lib.hid hpl
            clear HPREV hx hpl
            go_wp2
            generalize wr.alloc _ = W2 at *
            generalize wr.heap.size = bx at *
            have d0 : decide (kd < 0) = false := decide_eq_false (by omega)
            have d1 : decide (11 < kd) = false := decide_eq_false (by omega)
            have d2 : decide ((pl : Int) < 0) = false := decide_eq_false (by omega)
            have d3 : decide ((q.size : Int) < (pl : Int)) = false := decide_eq_false (by omega)
            have d3' : decide (q.size < pl) = false := decide_eq_false (by omega)
            have d5 : decide ((pl : Int) ≤ (p : Int)) = false := decide_eq_false (by have := HPL.out; omega)
            have d5' : decide (pl ≤ p) = false := decide_eq_false (by have := HPL.out; omega)
            have d4 : decide ((0 : Int) < (j : Int) + 1) = true := decide_eq_true (by omega)
            have d6 : (j : Int) + 1 - 1 = (j : Int) := by omega
            have d6' : IntKind.i64.wrap ((j : Int) + 1 - 1) = (j : Int) := by rw [d6]; exact IntWalk.i64_in _ (by omega)
            have d7 : j < L.length := by omega
            have d7' : (j : Int) < (L.length : Int) := by omega
            have d8 : (0 : Int) ≤ (j : Int) := by omega
            go_quiet (fail)
            have HF3 : Hid (Fresh w1 (W2.drewN nq)) := below_drewN HF2.out nq
            have e0 : (W2.drewN nq).cell? ⟨bx, 0, none⟩ = some (.int .i64 kd) := b0
            have e1 : (W2.drewN nq).cell? ⟨bx, 1, none⟩ = some (.string xx) := b1
            have e2 : (W2.drewN nq).cell? ⟨bx, 2, none⟩ = some (.int .i64 iv) := b2
            have e3 : (W2.drewN nq).cell? ⟨bx, 3, none⟩ = some (.int .i64 (pl : Int)) := b3
            clear b0 b1 b2 b3
            generalize W2.drewN nq = W3 at *
            go_wp2_with fail
            refine (HOF.out _).mono ?_
            rintro e W4 ⟨rfl, hf4⟩
            have HF4 := Lib.hid (HF3.out.trans hf4)
            clear hf4
            go_wp2_with fail
            refine (HSHOW2.out _).mono ?_
            rintro e W5 ⟨rfl, hf5⟩
            have HF5 := Lib.hid (HF4.out.trans hf5)
            clear hf5
            go_wp2
            go_roundw
            case rel => exact ⟨(j + 1) + 1, by omega, by rw [HT1.out], by go_num, HF5.out⟩
            case measure => simp [intOf]; omega
        · obtain rfl : k = L.length := by omega
          obtain ⟨M, HM1, HM2, HM3⟩ := HM.out
          have HSM := Lib.hid (strip_same HM3)
          have htk : L.take L.length = L := List.take_length
          rw [htk]
          have HLY := Lib.hid (fun W h1 h2 => lex_any (shows L) W (by have := HSL.out; omega) h1 h2)
          rw [HM1] at HLY
          have hsz2 : (bs (shows L)).size ≤ 63001 := by rw [bs_size]; exact HSL.out
          clear htk HM HM1 HM3
          have HML := Lib.hid HM2
          have hm2 : M.length = L.length := HM2
          clear HM2
          generalize bs (shows L) = q2 at *
          have HF1' := Lib.hid (HF1.out.trans HF.out)
          go_wp2_with fail
          refine (HLY.out _ (HT.out.move HF1'.out) (HR.out.move HF1'.out)).mono ?_
          rintro e w2 ⟨he, hf2⟩
          rw [if_pos rfl] at he
          obtain ⟨B2, g2, cap2, hB2, rfl, hb2⟩ := he
          dsimp only at hb2 ⊢
          rw [hm2] at hb2 ⊢
          have HF2 := Lib.hid hf2
          have HB2 := Lib.hid hb2
          have HB1 := Lib.hid (HB.out.fresh (HF.out.trans hf2))
          clear hf2 hb2 hB2 hm2
          go_wp2
          go_loopw [96] (fun a96 wr => ∃ k : Nat, k ≤ L.length ∧ a96 = .int .i64 (k : Int) ∧ Hid (Fresh w2 wr)) (fun a96 _ => L.length - (intOf a96).toNat)
          case atStart => exact ⟨0, Nat.zero_le _, rfl, Fresh.refl _⟩
          case round =>
            obtain ⟨k, hk, rfl, HF5⟩ := hrel
            by_cases hlt : k < L.length
            · have hget : L[k]? = some L[k] := List.getElem?_eq_getElem hlt
              have hlm : k < M.length := by rw [HML.out]; exact hlt
              have hgetm : M[k]? = some M[k] := List.getElem?_eq_getElem hlm
              obtain ⟨e1, e2, e3⟩ := HSM.out k _ _ hget hgetm
              obtain ⟨c0, c1, c2, c3⟩ := (HB1.out.fresh HF5.out).word k _ hget
              obtain ⟨m0, m1, m2, m3⟩ := (HB2.out.fresh HF5.out).word k _ hgetm
              rw [e1] at m0
              rw [e2] at m1
              rw [e3] at m2
              have HL3 := Lib.hid hlt
              have h0k : (0 : Int) ≤ (k : Int) := by omega
              have hki : (k : Int) < (L.length : Int) := by omega
              clear hget hgetm e1 e2 e3 c3 m3 hlm
              generalize L[k].kind = kd at *
              generalize bs L[k].text = xx at *
              generalize L[k].int = iv at *
              go_wp2
              have d0 : (kd != kd) = false := by simp
              have d1 : (xx.toList != xx.toList) = false := by simp
              have d2 : (iv != iv) = false := by simp
              go_quiet (fail)
              have HF6 : Hid (Fresh w2 (wr.drewN nq)) := below_drewN HF5.out nq
              generalize wr.drewN nq = W6 at *
              go_wp2
              go_roundw
              case rel => exact ⟨k + 1, by have := HL3.out; omega, by go_num, HF6.out⟩
              case measure => simp [intOf]; have := HL3.out; omega
            · obtain rfl : k = L.length := by omega
              have HF7 := Lib.hid (HF1'.out.trans (HF2.out.trans HF5.out))
              go_wp2_with fail
              refine (HA.out _ (HT.out.move HF7.out) (HR.out.move HF7.out)).mono ?_
              rintro e w3 ⟨rfl, hf3⟩
              have HF8 := Lib.hid (HF7.out.trans hf3)
              clear hf3
              go_wp2
              go_ret
              exact ⟨rfl, HF8.out⟩
    · have hcc : (code != 0) = true := by simpa using hc
      have HC := Lib.hid hc
      have HSIZE : Hid ((bs s).size = s.length) := hsz
      clear hsz hs hsl HWO hc
      generalize bs s = q at *
      go_enter Tryd.func4, Tryd.ntmps4
      go_wp2_with fail
      refine HLX.out.mono ?_
      rintro e w1 ⟨he, hf1⟩
      rw [if_neg HC.out] at he
      subst he
      have HF1 := Lib.hid hf1
      clear hf1
      dsimp only
      go_wp2_with fail
      refine (HA.out _ (HT.out.move HF1.out) (HR.out.move HF1.out)).mono ?_
      rintro e w3 ⟨rfl, hf3⟩
      have HF8 := Lib.hid (HF1.out.trans hf3)
      clear hf3
      go_wp2
      go_ret
      exact ⟨rfl, HF8.out⟩
end Go.Proofs.YtajmhllldocpjaaDoor

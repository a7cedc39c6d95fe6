/-
  Package value: what is wrong with keys (texts, and two alike).
-/
import Derived.Test.YtonakfkiidhebaaDoorRdepth
import Derived.Maps.Own
import Derived.Maps.OwnOps
import Derived.Maps.OwnSet
namespace Go.Proofs.YtonakfkiidhebaaDoor
open Go.ChangeShapes Go.WideShapes Go.ChangeAt Go.RowKit
variable {w : World}

def key (s : ByteArray) : Lit := .string s.data.toList
theorem key_inj {a b : ByteArray} (h : key a = key b) : a = b := by
  unfold key at h
  injection h with h
  exact ByteArray.ext (Array.ext' h)
theorem key_of (s : ByteArray) (hs : s.size ≤ 1000000) : keyOf Tryd.prog 9 (.string s) = some (key s) := Go.WideMaps.keyOf_string_mk Tryd.underlying9 (by unfold maxLen; omega)
theorem law9 : Maps.Keyed Tryd.prog 9 := Maps.string_keyed Tryd.underlying9
theorem zero4 (w : World) : (zeroValue 4).run Tryd.prog w = .ok (.bool false) w := by kernel_rfl
def boolR : Value → Option (DataW Unit × List MemPlace)
  | .bool x => some (.lit (.bool x), [])
  | _ => none
theorem boolR_inv {v : Value} {y : DataW Unit × List MemPlace} (h : boolR v = some y) : ∃ x, v = .bool x ∧ y = (.lit (.bool x), []) := by
  unfold boolR at h
  split at h
  · exact ⟨_, rfl, by cases h; rfl⟩
  · cases h
def inB (s : ByteArray) (L : List ByteArray) : Bool := L.any fun t => decide (t = s)
theorem inB_iff (s : ByteArray) (L : List ByteArray) : inB s L = true ↔ s ∈ L := by
  unfold inB
  rw [List.any_eq_true]
  constructor
  · rintro ⟨t, ht, e⟩
    have := of_decide_eq_true e
    subst this; exact ht
  · exact fun h => ⟨s, h, decide_eq_true rfl⟩
theorem inB_yes {s : ByteArray} {L : List ByteArray} (h : s ∈ L) : inB s L = true := (inB_iff s L).2 h
theorem inB_no {s : ByteArray} {L : List ByteArray} (h : s ∉ L) : inB s L = false := by
  cases e : inB s L with
  | false => rfl
  | true => exact absurd ((inB_iff s L).1 e) h
/-- Block b is a map of at most n keys: these were met. -/
def seenIs (w : World) (b n : Nat) (L : List ByteArray) : Prop := ∃ D : DataW Unit, w.ownsMap Tryd.prog 9 boolR b n D ∧ ∀ s : ByteArray, D.atKey (key s) (.lit (.bool false)) = .lit (.bool (inB s L))
theorem seen_made (w : World) : seenIs (w.alloc (.map #[] 0)) w.heap.size 0 [] := ⟨_, World.ownsMap_made w _ _ _, fun _ => rfl⟩
theorem seenIs.look {w : World} {b n : Nat} {L : List ByteArray} (h : seenIs w b n L) (s : ByteArray) (hs : s.size ≤ 1000000) : (Instr.lookup 85 (.map (some b)) (.string s) false).run Tryd.prog w = .ok (.bool (inB s L)) w := by
  obtain ⟨D, h1, h2⟩ := h
  obtain ⟨v, ps, hr, hv⟩ := h1.lookup law9 Tryd.underlying85 (zero4 w) (zd := .lit (.bool false)) (zp := []) rfl (key_of s hs)
  obtain ⟨x, rfl, e⟩ := boolR_inv hv
  rw [h2 s] at e
  simp only [Prod.mk.injEq, DataW.lit.injEq, Lit.bool.injEq] at e
  rw [e.1]; exact hr
theorem seenIs.move {w w' : World} {b n : Nat} {L : List ByteArray} (h : seenIs w b n L) (hb : w'.heap[b]? = w.heap[b]?) : seenIs w' b n L := by
  obtain ⟨D, ⟨es, clock, h1, r⟩, h2⟩ := h
  exact ⟨D, ⟨es, clock, hb.trans h1, r⟩, h2⟩
theorem seenIs.lt {w : World} {b n : Nat} {L : List ByteArray} (h : seenIs w b n L) : b < w.heap.size := by
  obtain ⟨D, h1, _⟩ := h; exact h1.lt
theorem seen_put {D : DataW Unit} {L : List ByteArray} (hD : Maps.IsMap D) (h : ∀ s : ByteArray, D.atKey (key s) (.lit (.bool false)) = .lit (.bool (inB s L))) (nm : ByteArray) (hn : nm.size ≤ 1000000) (s : ByteArray) :
    (D.put (key nm) (.lit (.bool true))).atKey (key s) (.lit (.bool false)) = .lit (.bool (inB s (L ++ [nm]))) := by
  have hk : WideAt.IsKeyLit (key nm) := law9.key (v := .string nm) (l := key nm) (key_of nm hn)
  by_cases hs : s = nm
  · subst hs
    rw [Maps.atKey_put_same hD hk, inB_yes (by simp)]
  · rw [Maps.atKey_put_other (fun e => hs (key_inj e)), h s]
    have e : inB s (L ++ [nm]) = inB s L := by simp [inB, Ne.symm hs]
    rw [e]

theorem textsW_at (ks : List (ByteArray × M)) (j : Nat) (h : j < ks.length) : textsW ((ks.map (·.1)).drop j) = if textW ks[j].1 ≠ 0 then textW ks[j].1 else textsW ((ks.map (·.1)).drop (j + 1)) := by
  rw [textsW_drop _ j (by simpa using h), List.getElem_map]
theorem twice_at {ks : List (ByteArray × M)} {j : Nat} (h : j < ks.length) (hm : ks[j].1 ∈ (ks.map (·.1)).take j) : ¬ (ks.map (·.1)).Nodup := by
  intro hn
  rw [← List.take_append_drop j (ks.map (·.1)), List.nodup_append] at hn
  have hd : ks[j].1 ∈ (ks.map (·.1)).drop j := by
    rw [List.drop_eq_getElem_cons (by simpa using h), List.getElem_map]; simp
  exact hn.2.2 _ hm _ hd rfl
theorem once_at {ks : List (ByteArray × M)} {j : Nat} (h : j < ks.length) (hn : ((ks.map (·.1)).take j).Nodup) (hm : ks[j].1 ∉ (ks.map (·.1)).take j) : ((ks.map (·.1)).take (j + 1)).Nodup := by
  rw [List.take_succ_eq_append_getElem (by simpa using h), List.getElem_map, List.nodup_append]
  exact ⟨hn, by simp, fun a ha b hb => by rw [List.mem_singleton] at hb; subst hb; rintro rfl; exact hm ha⟩
set_option maxRecDepth 100000 in
set_option maxHeartbeats 2000000 in
theorem keysFault_any (ks : List (ByteArray × M)) (ka : Option Addr) (kc : Nat) (w : World) (hT : Tabs w) (hk : RowAt w ka (pcells ks)) (lk : ks.length ≤ 1000000) (hn : ∀ p ∈ ks, p.1.size ≤ 1000000) :
    Calls Tryd.prog 43 #[.slice ka ks.length kc] w fun e w' => e = .returned (.int .i64 (keysW (ks.map (·.1)))) ∧ Fresh w w' := by
  have HT := Lib.hid hT
  have HR := Lib.hid hk
  have HN := Lib.hid hn
  have hmm := @run_makeMap Tryd.prog
  clear hT hk hn
  go_enter Tryd.func43, Tryd.ntmps43
  go_wp2
  go_loopw [11] (fun a wq => ∃ j : Nat, j ≤ ks.length ∧ a = .int .i64 j ∧ Hid (textsW (ks.map (·.1)) = textsW ((ks.map (·.1)).drop j)) ∧ Hid (Fresh w wq)) (fun a _ => ks.length - (intOf a).toNat)
  case atStart => exact ⟨0, Nat.zero_le _, rfl, rfl, Fresh.refl w⟩
  case round =>
    obtain ⟨j, hj, rfl, HE, HW⟩ := hrel
    by_cases hlt : j < ks.length
    · obtain ⟨g, eg⟩ := prow_some HR.out j hlt
      subst eg
      obtain ⟨c, hy⟩ := prow_get (HR.out.move HW.out) j hlt
      have HX := Lib.hid (textsW_at ks j hlt)
      have hb := textW_bd ks[j].1
      have HQ : Hid (∀ W, Fresh wr W → Calls Tryd.prog 42 #[.string ks[j].1] W fun e w' => e = .returned (.int .i64 (textW ks[j].1)) ∧ Fresh W w') := fun W hf => textFault_any _ W (HN.out _ (List.getElem_mem _)) (HT.out.move (HW.out.trans hf))
      generalize ks[j] = p at *
      obtain ⟨nm, y⟩ := p
      dsimp only at c HQ HX hb
      generalize textW nm = x at *
      obtain ⟨yk, yf, yn, ys, yla, ylc, yl, yka, ykc, yks⟩ := y
      obtain ⟨d0, d1, d2, d3, d4, d5⟩ := hy
      generalize yl.length = yln at *
      generalize yks.length = ykn at *
      by_cases hx : x = 0
      · subst hx
        have HX2 : Hid (textsW ((ks.map (·.1)).drop j) = textsW ((ks.map (·.1)).drop (j + 1))) := by rw [Hid, HX.out, if_neg (by simp)]
        go_wp2_with fail
        refine (HQ.out _ ((Fresh.refl wr).alloc _)).mono ?_
        rintro e w1 ⟨rfl, hf⟩
        have HF := Lib.hid ((HW.out.alloc _).trans hf)
        clear hf
        go_wp2
        go_roundw
        case rel => exact ⟨j + 1, by omega, by go_num, by rw [Hid, HE.out, HX2.out], HF.out⟩
        case measure => simp [intOf]; omega
      · have HX2 : Hid (keysW (ks.map (·.1)) = x) := by
          have h1 : textsW (ks.map (·.1)) = x := by rw [HE.out, HX.out, if_pos hx]
          rw [Hid, keysW, h1, if_pos hx]
        have hxb : (x == 0) = false := by simpa using hx
        go_wp2_with fail
        refine (HQ.out _ ((Fresh.refl wr).alloc _)).mono ?_
        rintro e w1 ⟨rfl, hf⟩
        have HF := Lib.hid ((HW.out.alloc _).trans hf)
        clear hf
        go_wp2
        go_ret
        exact ⟨ret_int (by rw [HX2.out]), HF.out⟩
    · obtain rfl : j = ks.length := by omega
      have HK : Hid (keysW (ks.map (·.1)) = if (ks.map (·.1)).Nodup then 0 else 8) := by
        have h1 : textsW (ks.map (·.1)) = 0 := by
          rw [HE.out, List.drop_eq_nil_of_le (by simp)]; rfl
        rw [Hid, keysW, h1, if_neg (by simp)]
      obtain ⟨wo, rfl⟩ : ∃ wo : World, wo = wr := ⟨_, rfl⟩
      clear HE
      go_wp2
      go_loopw [25] (fun a wq => ∃ i : Nat, i ≤ ks.length ∧ a = .int .i64 i ∧ Hid (seenIs wq wo.heap.size i ((ks.map (·.1)).take i)) ∧ Hid (((ks.map (·.1)).take i).Nodup) ∧ Hid (Fresh w wq)) (fun a _ => ks.length - (intOf a).toNat)
      case atStart => exact ⟨0, Nat.zero_le _, rfl, seen_made wo, by simp [Hid], HW.out.alloc _⟩
      case round =>
        obtain ⟨i, hi, rfl, HS, HND, HW3⟩ := hrel
        by_cases hlt2 : i < ks.length
        · obtain ⟨g, eg⟩ := prow_some HR.out i hlt2
          subst eg
          obtain ⟨c, hy⟩ := prow_get (HR.out.move HW3.out) i hlt2
          have H1 := Lib.hid (@twice_at ks i hlt2)
          have H2 := Lib.hid (@once_at ks i hlt2 HND.out)
          have HTK : Hid ((ks.map (·.1)).take (i + 1) = (ks.map (·.1)).take i ++ [ks[i].1]) := by
            rw [Hid, List.take_succ_eq_append_getElem (by simpa using hlt2), List.getElem_map]
          have hsz : ks[i].1.size ≤ 1000000 := HN.out _ (List.getElem_mem _)
          have hbm := HS.out.lt
          generalize ks[i] = p at *
          obtain ⟨nm, y⟩ := p
          dsimp only at c hsz H1 H2 HTK
          obtain ⟨yk, yf, yn, ys, yla, ylc, yl, yka, ykc, yks⟩ := y
          obtain ⟨d0, d1, d2, d3, d4, d5⟩ := hy
          generalize yl.length = yln at *
          generalize yks.length = ykn at *
          have hs2 := HS.out.move (Below.heap_alloc wr (.cells #[.string nm, .int .i64 yk, .bool yf, .int .i64 yn, .string ys, .slice yla yln ylc, .slice yka ykn ykc] 54) _ hbm)
          have hlook := hs2.look nm hsz
          by_cases hm : nm ∈ (ks.map (·.1)).take i
          · rw [inB_yes hm] at hlook
            have HX : Hid (keysW (ks.map (·.1)) = 8) := by rw [Hid, HK.out, if_neg (H1.out hm)]
            clear hm hs2
            go_wp2
            go_ret
            exact ⟨ret_int (by rw [HX.out]), HW3.out.alloc _⟩
          · rw [inB_no hm] at hlook
            have H3 := Lib.hid (H2.out hm)
            obtain ⟨D, hown, hD⟩ := hs2
            have HO := Lib.hid hown
            have HD := Lib.hid hD
            clear hm hown hD
            go_wp2_with (at_mapUpdate; refine wpList_mapUpdate_own _ rfl _ _ _ 85 rfl 9 4 law9 Tryd.underlying85 boolR wo.heap.size i D rfl HO.out (by unfold maxLen; omega) _ _ _ rfl rfl (key_of nm hsz) _ [] rfl ?_; intro w5 ho5 hg5; have HO5 := Lib.hid ho5; have HG5 := Lib.hid hg5; clear ho5 hg5)
            go_roundw
            case rel => exact ⟨i + 1, by omega, by go_num, ⟨_, HO5.out, fun s => by rw [HTK.out]; exact seen_put HO.out.isMap HD.out nm hsz s⟩, H3.out, (HW3.out.alloc _).grown HG5.out (fun g e => by cases e; exact HW.out.size)⟩
            case measure => simp [intOf]; omega
        · obtain rfl : i = ks.length := by omega
          have HX : Hid (keysW (ks.map (·.1)) = 0) := by
            have := HND.out
            rw [List.take_of_length_le (by simp)] at this
            rw [Hid, HK.out, if_pos this]
          go_wp2
          go_ret
          exact ⟨ret_int (by rw [HX.out]), HW3.out⟩
end Go.Proofs.YtonakfkiidhebaaDoor

/-
  The document's Default.
  The document's Default, walked.
  What is wrong with variables.
  How great a pod is.
  Pods that are small enough to be looked at.
  What is wrong with a container, by package spec.
-/
import Derived.Test.YtldncgelghcjeaaGreatDoorCat02
import Derived.RangeFuncBox
import Derived.StillTailTactics
import Derived.Deep.Cut
import Derived.Test.YtldncgelghcjeaaGreatDoorCat09
import Derived.Test.YtldncgelghcjeaaGreatDoorCat10
import Derived.RegionTactic
import Derived.Deep.RegionHeld3
set_option linter.unusedSimpArgs false
set_option linter.unusedVariables false
namespace Go.Proofs.YtldncgelghcjeaaGreatDoor
open Go.ChangeShapes Go.WideShapes Go.ChangeAt Go.RowKit

theorem infoC : (Tryz.prog.info? 115).map (fun i => (i.zero, i.size, i.bytes)) = some (some (.agg #[.string ⟨#[]⟩, .string ⟨#[]⟩, .slice none 0 0, .slice none 0 0, .int .i64 0, .int .i64 0, .slice none 0 0]), 7, 120) := by kernel_rfl
theorem grownBy_trans' {a b c : World} {r : Option Nat} (h : a.grownBy b r) (k : b.grownBy c r) : a.grownBy c r :=
  ⟨k.os.trans h.os, k.tape.trans h.tape, k.output.trans h.output, Nat.le_trans h.size k.size, fun j hj hne => by
    rw [k.block j (Nat.lt_of_lt_of_le hj h.size) hne, h.block j hj hne]⟩
/-- A pod's own box, and that of the answer. -/
structure DPre (ty : Nat) (w W0 : World) (name ns : ByteArray) (rs gr : Int) (ho : Bool) (a : Option Addr) (n cap : Nat) : Prop where
  at1 : W0.heap[w.heap.size]? = some (.cells #[.string name, .string ns, .int .i64 rs, .int .i64 gr, .bool ho, .slice a n cap] ty)
  at2 : W0.heap[w.heap.size + 1]? = some (.cells #[.string ⟨#[]⟩, .string ⟨#[]⟩, .int .i64 0, .int .i64 0, .bool false, .slice none 0 0] ty)
  fr : Fresh w W0
  sz : W0.heap.size = w.heap.size + 2
theorem dpre0 (ty : Nat) (w : World) (name ns : ByteArray) (rs gr : Int) (ho : Bool) (a : Option Addr) (n cap : Nat) :
    DPre ty w ((w.alloc (.cells #[.string name, .string ns, .int .i64 rs, .int .i64 gr, .bool ho, .slice a n cap] ty)).alloc (.cells #[.string ⟨#[]⟩, .string ⟨#[]⟩, .int .i64 0, .int .i64 0, .bool false, .slice none 0 0] ty)) name ns rs gr ho a n cap where
  at1 := at_alloc (at_new _ _)
  at2 := by have := at_new (w.alloc (.cells #[.string name, .string ns, .int .i64 rs, .int .i64 gr, .bool ho, .slice a n cap] ty)) (.cells #[.string ⟨#[]⟩, .string ⟨#[]⟩, .int .i64 0, .int .i64 0, .bool false, .slice none 0 0] ty); rw [World.size_alloc] at this; exact this
  fr := ((Fresh.refl w).alloc _).alloc _
  sz := by simp
theorem DPre.setNs {ty : Nat} {w W0 : World} {name ns : ByteArray} {rs gr : Int} {ho : Bool} {a : Option Addr} {n cap : Nat} (h : DPre ty w W0 name ns rs gr ho a n cap) (s : ByteArray) : DPre ty w (W0.setCell ⟨w.heap.size, 1, none⟩ (.string s)) name s rs gr ho a n cap where
  at1 := by simp [World.setCell, Array.getElem?_modify, h.at1]
  at2 := by simp [World.setCell, Array.getElem?_modify, h.at2]
  fr := h.fr.setCell (p := ⟨w.heap.size, 1, none⟩) (Nat.le_refl _) _
  sz := by simp [h.sz]
theorem DPre.setGr {ty : Nat} {w W0 : World} {name ns : ByteArray} {rs gr : Int} {ho : Bool} {a : Option Addr} {n cap : Nat} (h : DPre ty w W0 name ns rs gr ho a n cap) (s : Int) : DPre ty w (W0.setCell ⟨w.heap.size, 3, none⟩ (.int .i64 s)) name ns rs s ho a n cap where
  at1 := by simp [World.setCell, Array.getElem?_modify, h.at1]
  at2 := by simp [World.setCell, Array.getElem?_modify, h.at2]
  fr := h.fr.setCell (p := ⟨w.heap.size, 3, none⟩) (Nat.le_refl _) _
  sz := by simp [h.sz]
theorem box6p {w : World} {b ty : Nat} {name ns : ByteArray} {rs gr : Int} {ho : Bool} {a : Option Addr} {n cap : Nat} (h : w.heap[b]? = some (.cells #[.string name, .string ns, .int .i64 rs, .int .i64 gr, .bool ho, .slice a n cap] ty)) :
    (w.cell? ⟨b, 0, none⟩ = some (.string name) ∧ w.cell? ⟨b, 1, none⟩ = some (.string ns) ∧ w.cell? ⟨b, 2, none⟩ = some (.int .i64 rs) ∧ w.cell? ⟨b, 3, none⟩ = some (.int .i64 gr) ∧ w.cell? ⟨b, 4, none⟩ = some (.bool ho) ∧ w.cell? ⟨b, 5, none⟩ = some (.slice a n cap)) ∧ ∀ i, w.frozen? ⟨b, i, none⟩ = false :=
  ⟨⟨cell_of_at h rfl, cell_of_at h rfl, cell_of_at h rfl, cell_of_at h rfl, cell_of_at h rfl, cell_of_at h rfl⟩, fun i => by simp [World.frozen?, h]⟩
/-- A container's box. -/
def Box7 (ty : Nat) (w : World) (b : Nat) (s0 s1 : ByteArray) (v2 v3 : Value) (n4 n5 : Int) (v6 : Value) : Prop := w.heap[b]? = some (.cells #[.string s0, .string s1, v2, v3, .int .i64 n4, .int .i64 n5, v6] ty)
theorem Box7.cells {ty : Nat} {w : World} {b : Nat} {s0 s1 : ByteArray} {v2 v3 : Value} {n4 n5 : Int} {v6 : Value} (h : Box7 ty w b s0 s1 v2 v3 n4 n5 v6) :
    (w.cell? ⟨b, 0, none⟩ = some (.string s0) ∧ w.cell? ⟨b, 1, none⟩ = some (.string s1) ∧ w.cell? ⟨b, 2, none⟩ = some v2 ∧ w.cell? ⟨b, 3, none⟩ = some v3 ∧ w.cell? ⟨b, 4, none⟩ = some (.int .i64 n4) ∧ w.cell? ⟨b, 5, none⟩ = some (.int .i64 n5) ∧ w.cell? ⟨b, 6, none⟩ = some v6) ∧ ∀ i, w.frozen? ⟨b, i, none⟩ = false :=
  ⟨⟨cell_of_at h rfl, cell_of_at h rfl, cell_of_at h rfl, cell_of_at h rfl, cell_of_at h rfl, cell_of_at h rfl, cell_of_at h rfl⟩, fun i => by simp [World.frozen?, show w.heap[b]? = _ from h]⟩
theorem box7_set (ty : Nat) (w : World) (s0 s1 : ByteArray) (v2 v3 : Value) (n4 n5 : Int) (v6 : Value) :
    Box7 ty ((((((((w.alloc (.cells #[.string ⟨#[]⟩, .string ⟨#[]⟩, .slice none 0 0, .slice none 0 0, .int .i64 0, .int .i64 0, .slice none 0 0] ty)).setCell ⟨w.heap.size, 0, none⟩ (.string s0)).setCell ⟨w.heap.size, 1, none⟩ (.string s1)).setCell ⟨w.heap.size, 2, none⟩ v2).setCell ⟨w.heap.size, 3, none⟩ v3).setCell ⟨w.heap.size, 4, none⟩ (.int .i64 n4)).setCell ⟨w.heap.size, 5, none⟩ (.int .i64 n5)).setCell ⟨w.heap.size, 6, none⟩ v6) w.heap.size s0 s1 v2 v3 n4 n5 v6 ∧
    Fresh w ((((((((w.alloc (.cells #[.string ⟨#[]⟩, .string ⟨#[]⟩, .slice none 0 0, .slice none 0 0, .int .i64 0, .int .i64 0, .slice none 0 0] ty)).setCell ⟨w.heap.size, 0, none⟩ (.string s0)).setCell ⟨w.heap.size, 1, none⟩ (.string s1)).setCell ⟨w.heap.size, 2, none⟩ v2).setCell ⟨w.heap.size, 3, none⟩ v3).setCell ⟨w.heap.size, 4, none⟩ (.int .i64 n4)).setCell ⟨w.heap.size, 5, none⟩ (.int .i64 n5)).setCell ⟨w.heap.size, 6, none⟩ v6) := by
  refine ⟨?_, ?_⟩
  · have h := at_new w (.cells #[.string ⟨#[]⟩, .string ⟨#[]⟩, .slice none 0 0, .slice none 0 0, .int .i64 0, .int .i64 0, .slice none 0 0] ty)
    exact at_set (at_set (at_set (at_set (at_set (at_set (at_set h 0 (.string s0)) 1 (.string s1)) 2 v2) 3 v3) 4 (.int .i64 n4)) 5 (.int .i64 n5)) 6 v6
  · repeat (refine Fresh.setCell ?_ (by exact Nat.le_refl _) _)
    exact (Fresh.refl w).alloc _
theorem Box7.set4 {ty : Nat} {w W : World} {s0 s1 : ByteArray} {v2 v3 : Value} {n4 n5 : Int} {v6 : Value} (h : Box7 ty W w.heap.size s0 s1 v2 v3 n4 n5 v6 ∧ Fresh w W) (m : Int) : Box7 ty (W.setCell ⟨w.heap.size, 4, none⟩ (.int .i64 m)) w.heap.size s0 s1 v2 v3 m n5 v6 ∧ Fresh w (W.setCell ⟨w.heap.size, 4, none⟩ (.int .i64 m)) :=
  ⟨by have := h.1; simp [Box7, World.setCell, Array.getElem?_modify, show W.heap[w.heap.size]? = _ from this], h.2.setCell (p := ⟨w.heap.size, 4, none⟩) (Nat.le_refl _) _⟩
theorem Box7.set5 {ty : Nat} {w W : World} {s0 s1 : ByteArray} {v2 v3 : Value} {n4 n5 : Int} {v6 : Value} (h : Box7 ty W w.heap.size s0 s1 v2 v3 n4 n5 v6 ∧ Fresh w W) (m : Int) : Box7 ty (W.setCell ⟨w.heap.size, 5, none⟩ (.int .i64 m)) w.heap.size s0 s1 v2 v3 n4 m v6 ∧ Fresh w (W.setCell ⟨w.heap.size, 5, none⟩ (.int .i64 m)) :=
  ⟨by have := h.1; simp [Box7, World.setCell, Array.getElem?_modify, show W.heap[w.heap.size]? = _ from this], h.2.setCell (p := ⟨w.heap.size, 5, none⟩) (Nat.le_refl _) _⟩
def CM.dft (m : CM) : CM := { m with c := defC m.c }
theorem dft_in {w : World} {m : CM} (h : m.In w) : m.dft.In w := ⟨h.cmd, h.ports, h.env, h.room⟩
/-- A row of containers that the call owns. -/
def CBuf (ty : Nat) (w : World) (B : Nat) (v : Value) (l : List CM) : Prop := w.ownsRow B ty 7 v l.length (ccells l)
theorem CBuf.fresh {ty : Nat} {w w' : World} {B : Nat} {v : Value} {l : List CM} (h : CBuf ty w B v l) (hf : Fresh w w') : CBuf ty w' B v l := by
  refine World.ownsRow.kept (row := none) h (hf.grownBy' none) ?_
  rcases h' : v.ownBlock with _ | g
  · exact .inl rfl
  · exact .inr (by simp)
theorem cbuf_shape {ty : Nat} {w : World} {B : Nat} {v : Value} {l : List CM} (h : CBuf ty w B v l) : ∃ o c, v = .slice o l.length c := by
  rcases h.2 with ⟨h1, h2⟩ | ⟨g, cap, c2, h1, _⟩
  · exact ⟨none, 0, by rw [h1, h2]⟩
  · exact ⟨_, _, h1⟩
theorem CBuf.more {ty : Nat} {w' : World} {B : Nat} {v : Value} {l : List CM} {m : CM} (h : w'.ownsRow B ty 7 v (l.length + 1) (ccells l ++ m.cells)) : CBuf ty w' B v (l ++ [m]) := by
  unfold CBuf
  rw [show ccells (l ++ [m]) = ccells l ++ m.cells by simp [ccells], List.length_append]
  exact h
end Go.Proofs.YtldncgelghcjeaaGreatDoor
namespace Go.Proofs.YtldncgelghcjeaaGreatDoor
open Go.ChangeShapes Go.WideShapes Go.ChangeAt Go.RowKit

/-- What Default answers. -/
def PM.dft (p : PM) (a : Option Addr) (cap : Nat) : PM := { p with ns := if p.ns.size = 0 then nsDef else p.ns, grace := if p.grace = 0 then 30 else p.grace, cs := p.cs.map CM.dft, a := a, cap := cap }
theorem dft_pd (p : PM) (a : Option Addr) (cap : Nat) : (p.dft a cap).pd = defP p.pd := by
  unfold PM.dft PM.pd defP
  simp only [List.map_map]
  rfl
end Go.Proofs.YtldncgelghcjeaaGreatDoor
namespace Go.Proofs.YtldncgelghcjeaaGreatDoor
open Go.ChangeShapes Go.WideShapes Go.ChangeAt Go.RowKit
attribute [local go_sem ↓] Go.wp_at_zero Go.wp_at_succ

theorem cell_grown {w w' : World} {b : Nat} (hg : w.grownBy w' (some b)) {p : Addr} {v : Value} (hc : w.cell? p = some v) (hne : p.block ≠ b) : w'.cell? p = some v := by
  have h1 := World.block_lt_of_cell? w p hc
  have h2 := hg.block p.block h1 (fun e => hne (by cases e; rfl))
  unfold World.cell? at hc ⊢
  rw [h2]; exact hc
theorem nameE_var (v : ByteArray × ByteArray) (r : List (ByteArray × ByteArray)) (al : List ByteArray) : envE al (v :: r) = if nameE (varB v.1.data.toList) v.1 al = 0 then (if textE v.2 = 0 then envE (al ++ [v.1]) r else textE v.2) else nameE (varB v.1.data.toList) v.1 al := by
  rw [envE]
  unfold nameE
  cases varB v.1.data.toList <;> cases memT v.1 al <;> simp
def namesE (l : List (ByteArray × ByteArray)) : List ByteArray := l.map (·.1)
set_option maxRecDepth 100000 in
set_option maxHeartbeats 2000000 in
theorem envFault_any (l : List (ByteArray × ByteArray)) (a : Option Addr) (c : Nat) (w : World) (hT : Tabs w) (h : RowAt w a (ecells l)) (hl : l.length ≤ 1048576) (hn : ∀ v ∈ l, v.1.size ≤ 1048576 ∧ v.2.size ≤ 1048576) :
    Calls Tryz.prog 159 #[.slice a l.length c] w fun e w' => e = .returned (.int .i64 (envE [] l)) ∧ Fresh w w' := by
  have HT := Lib.hid hT
  have HR := Lib.hid h
  have HN := Lib.hid hn
  have hmm := @run_makeMap Tryz.prog
  have HM0 := Lib.hid (seen_made w)
  have HF0 := Lib.hid ((Fresh.refl w).alloc (.map #[] 0))
  clear hT h hn
  go_enter Tryz.func159, Tryz.ntmps159
  go_wp2
  generalize w.alloc (.map #[] 0) = W0 at *
  obtain ⟨b, hb⟩ : ∃ b, b = w.heap.size := ⟨_, rfl⟩
  have HBW := Lib.hid hb
  rw [← hb] at HM0 ⊢
  clear hb hmm
  go_loopw [11] (fun a11 wr => ∃ (k : Nat), a11 = .int .i64 (k : Int) ∧ k ≤ l.length ∧ Hid (envE [] l = envE (namesE (l.take k)) (l.drop k)) ∧ Hid (seenIs wr b k (namesE (l.take k))) ∧ Hid (Fresh w wr)) (fun a11 _ => l.length - (intOf a11).toNat)
  case atStart => exact ⟨0, rfl, Nat.zero_le _, rfl, HM0.out, HF0.out⟩
  case round =>
    obtain ⟨k, rfl, hk, HE, HS, HF⟩ := hrel
    by_cases hlt : k < l.length
    · obtain ⟨g, o1, rfl, hc⟩ := erow_form (HR.out.move HF.out) hlt
      obtain ⟨c0, c1⟩ := hc k hlt
      have HST : Hid (envE [] l = if nameE (varB l[k].1.data.toList) l[k].1 (namesE (l.take k)) = 0 then (if textE l[k].2 = 0 then envE (namesE (l.take (k + 1))) (l.drop (k + 1)) else textE l[k].2) else nameE (varB l[k].1.data.toList) l[k].1 (namesE (l.take k))) := by
        rw [Hid, HE.out, List.drop_eq_getElem_cons hlt, nameE_var, List.take_succ_eq_append_getElem hlt, show namesE (l.take k ++ [l[k]]) = namesE (l.take k) ++ [l[k].1] by unfold namesE; rw [List.map_append]; rfl]
      have HTK : Hid (namesE (l.take (k + 1)) = namesE (l.take k) ++ [l[k].1]) := by
        rw [Hid, List.take_succ_eq_append_getElem hlt, show namesE (l.take k ++ [l[k]]) = namesE (l.take k) ++ [l[k].1] by unfold namesE; rw [List.map_append]; rfl]
      have HSZ : Hid (l[k].1.size ≤ 1048576 ∧ l[k].2.size ≤ 1048576) := HN.out _ (List.getElem_mem hlt)
      clear hc
      generalize l[k].1 = u at *
      generalize l[k].2 = v at *
      have HV := Lib.hid (fun W => variable_any u W (by have := HSZ.out.1; unfold maxLen; omega))
      have HQ : Hid (∀ W, W.heap[b]? = wr.heap[b]? → Calls Tryz.prog 155 #[.string u, .bool (varB u.data.toList), .map (some b)] W fun e w' => e = .returned (.int .i64 (nameE (varB u.data.toList) u (namesE (l.take k)))) ∧ (nameE (varB u.data.toList) u (namesE (l.take k)) = 0 → seenIs w' b (k + 1) (namesE (l.take k) ++ [u])) ∧ W.grownBy w' (some b)) := fun W hW =>
        nameFault_any u _ b k _ W HSZ.out.1 (by omega) (HS.out.move hW)
      have HX : Hid (∀ W, Fresh w W → Calls Tryz.prog 175 #[.string v] W fun e w' => e = .returned (.int .i64 (textE v)) ∧ Fresh W w') := fun W f => textFault_any v W HSZ.out.2 (HT.out.move f)
      have HB9 := Lib.hid (at_new wr (.cells #[.string u, .string v] 130))
      have HF1 := Lib.hid ((Fresh.refl wr).alloc (.cells #[.string u, .string v] 130))
      have HNE : Hid (wr.heap.size ≠ b) := by have := HS.out.lt; rw [Hid]; omega
      have HSB : Hid ((wr.alloc (.cells #[.string u, .string v] 130)).heap[b]? = wr.heap[b]?) := HF1.out.block b HS.out.lt
      generalize nameE (varB u.data.toList) u (namesE (l.take k)) = ne at *
      generalize textE v = te at *
      generalize varB u.data.toList = vb at *
      go_wp2_with (fail)
      all_goals try (exfalso; omega)
      generalize hW1 : wr.alloc (.cells #[.string u, .string v] 130) = W1 at *
      clear hW1
      generalize hz : wr.heap.size = z at *
      clear hz
      have r0 := cell_of_at HB9.out (i := 0) (v := .string u) rfl
      have HKP : Hid (∀ w', W1.drew.grownBy w' (some b) → w'.cell? ⟨z, 0, none⟩ = some (.string u) ∧ w'.cell? ⟨z, 1, none⟩ = some (.string v) ∧ Fresh w w') := fun w' hg =>
        ⟨cell_grown hg (cell_of_at HB9.out (i := 0) (v := .string u) rfl) HNE.out, cell_grown hg (cell_of_at HB9.out (i := 1) (v := .string v) rfl) HNE.out, (HF.out.trans HF1.out).drew.grown hg (fun g e => by cases e; exact Nat.le_of_eq HBW.out.symm)⟩
      have HV2 := Lib.hid (HV.out W1.drew)
      have HQ2 := Lib.hid (HQ.out W1.drew HSB.out)
      go_region_held3 (fun w' => w'.cell? ⟨z, 0, none⟩ = some (.string u)) (go_keep)
        (first | (go_at_call 123; (with_reducible refine HV2.out.mono ?_); rintro e W2 ⟨rfl, rfl⟩) | (go_at_call 155; (with_reducible refine HQ2.out.mono ?_); rintro e W2 ⟨rfl, hs5, hg⟩; have HS5 := Lib.hid hs5; obtain ⟨k0, k1, k2⟩ := HKP.out _ hg; have HF5 := Lib.hid k2; clear hs5 hg k2))
      by_cases hne : ne = 0
      · subst hne
        have HS6 := Lib.hid (HS5.out rfl)
        have HST2 : Hid (envE [] l = if te = 0 then envE (namesE (l.take (k + 1))) (l.drop (k + 1)) else te) := by rw [Hid, HST.out, if_pos rfl]
        clear HST HS5
        go_wp2_with (fail)
        refine (HX.out _ HF5.out).mono ?_
        rintro e W3 ⟨rfl, hf⟩
        have HF6 := Lib.hid (HF5.out.trans hf)
        have HS7 := Lib.hid (HS6.out.fresh hf)
        clear hf
        by_cases hte : te = 0
        · have HN2 : Hid (envE [] l = envE (namesE (l.take (k + 1))) (l.drop (k + 1))) := by rw [Hid, HST2.out, if_pos hte]
          subst hte
          clear HST2
          go_wp2
          all_goals try (exfalso; omega)
          go_roundw
          case rel => exact ⟨k + 1, by simp, by omega, HN2.out, by rw [HTK.out]; exact HS7.out, HF6.out⟩
          case measure => simp [intOf]; omega
        · have HR2 : Hid (envE [] l = te) := by rw [Hid, HST2.out, if_neg hte]
          have e0 : (te == 0) = false := by rw [beq_eq_false_iff_ne]; exact hte
          have e1 : (te != 0) = true := by simp [hte]
          clear HST2
          go_wp2
          all_goals try (exfalso; omega)
          go_ret
          exact ⟨ret_int HR2.out.symm, HF6.out⟩
      · have HR2 : Hid (envE [] l = ne) := by rw [Hid, HST.out, if_neg hne]
        have e0 : (ne == 0) = false := by rw [beq_eq_false_iff_ne]; exact hne
        have e1 : (ne != 0) = true := by simp [hne]
        clear HST
        go_wp2
        all_goals try (exfalso; omega)
        go_ret
        exact ⟨ret_int HR2.out.symm, HF5.out⟩
    · obtain rfl : k = l.length := by omega
      have HR2 : Hid (envE [] l = 0) := by rw [Hid, HE.out, List.drop_length]; rfl
      go_wp2
      all_goals try (exfalso; omega)
      go_ret
      exact ⟨ret_int HR2.out.symm, HF.out⟩
end Go.Proofs.YtldncgelghcjeaaGreatDoor
namespace Go.Proofs.YtldncgelghcjeaaGreatDoor
open Go.ChangeShapes Go.WideShapes Go.ChangeAt Go.RowKit

def cmdW (l : List ByteArray) : Nat := (l.map fun s => 10 + s.size).sum
def envW (l : List (ByteArray × ByteArray)) : Nat := (l.map fun v => 10 + v.1.size + v.2.size).sum
def ctW (c : Ct) : Nat := 20 + c.name.size + c.image.size + 10 * c.ports.length + cmdW c.cmd + envW c.env
def weightA : Nat → List Ct → Nat
  | n, [] => n
  | n, c :: r => if 20000 < n + ctW c then 20001 else weightA (n + ctW c) r
def weight (p : Pd) : Nat := weightA (p.name.size + p.ns.size) p.cs
theorem sum_snoc {α : Type} (f : α → Nat) (l : List α) (k : Nat) (h : k < l.length) : ((l.take (k + 1)).map f).sum = ((l.take k).map f).sum + f l[k] := by
  rw [List.take_succ_eq_append_getElem h, List.map_append, List.sum_append]
  simp
theorem sum_le {α : Type} (f : α → Nat) (l : List α) (b : Nat) (h : ∀ x ∈ l, f x ≤ b) : (l.map f).sum ≤ l.length * b := by
  induction l with
  | nil => simp
  | cons x l ih =>
    have h1 := h x (by simp)
    have h2 := ih (fun y hy => h y (by simp [hy]))
    rw [List.map_cons, List.sum_cons, List.length_cons, Nat.succ_mul]
    omega
theorem take_sum_le {α : Type} (f : α → Nat) (l : List α) (b k : Nat) (h : ∀ x ∈ l, f x ≤ b) (hl : l.length ≤ 1048576) (hb : b ≤ 4000000) : ((l.take k).map f).sum ≤ 4194304000000 := by
  have h1 := sum_le f (l.take k) b (fun x hx => h x (List.mem_of_mem_take hx))
  have h2 : (l.take k).length ≤ 1048576 := by rw [List.length_take]; omega
  have h3 : (l.take k).length * b ≤ 1048576 * 4000000 := Nat.mul_le_mul h2 hb
  omega
set_option maxRecDepth 100000 in
set_option maxHeartbeats 4000000 in
theorem weight_any (p : PM) (w : World) (h : p.At w) (hl : p.Low) : Calls Tryz.prog 40 #[p.val] w fun e w' => e = .returned (.int .i64 (weight p.pd : Int)) ∧ Fresh w w' := by
  obtain ⟨name, ns, rs, gr, ho, a, cap, cs⟩ := p
  have HROW := Lib.hid h.row
  have HINS := Lib.hid h.ins
  have HLC := Lib.hid hl.cs
  have hn1 := hl.name
  have hn2 := hl.ns
  have hn3 := hl.len
  have HW : Hid (weight (PM.mk name ns rs gr ho a cap cs).pd = weightA (name.size + ns.size) (cs.map (·.c))) := rfl
  dsimp only [PM.val] at *
  clear h hl
  have HA := Lib.hid (at_new w (.cells #[.string name, .string ns, .int .i64 rs, .int .i64 gr, .bool ho, .slice a cs.length cap] 41))
  have HF0 := Lib.hid ((Fresh.refl w).alloc (.cells #[.string name, .string ns, .int .i64 rs, .int .i64 gr, .bool ho, .slice a cs.length cap] 41))
  rw [HW.out]
  go_enter Tryz.func40, Tryz.ntmps40
  go_wp2
  generalize w.alloc (.cells #[.string name, .string ns, .int .i64 rs, .int .i64 gr, .bool ho, .slice a cs.length cap] 41) = W0 at *
  go_loopw [3, 20] (fun a3 a20 wr => ∃ (k n : Nat), a20 = .int .i64 (k : Int) ∧ a3 = .int .i64 (n : Int) ∧ k ≤ cs.length ∧ n ≤ 3000000 ∧ Hid (weightA (name.size + ns.size) (cs.map (·.c)) = weightA n ((cs.drop k).map (·.c))) ∧ Hid (Fresh W0 wr)) (fun _ a20 _ => cs.length - (intOf a20).toNat)
  case atStart => exact ⟨0, name.size + ns.size, rfl, by simp, Nat.zero_le _, by omega, rfl, Fresh.refl _⟩
  case round =>
    obtain ⟨k, n, rfl, rfl, hk, hn, HE, HF⟩ := hrel
    by_cases hlt : k < cs.length
    · obtain ⟨g, o1, rfl, hc⟩ := crow_form ((HROW.out.move HF0.out).move HF.out) hlt
      obtain ⟨c0, c1, c2, c3, c4, c5, c6⟩ := hc k hlt
      have HIN : Hid (cs[k].In wr) := (HINS.out _ (List.getElem_mem hlt)).move (HF0.out.trans HF.out)
      have HLOW := Lib.hid (HLC.out _ (List.getElem_mem hlt))
      have HE2 : Hid (weightA n ((cs.drop k).map (·.c)) = if 20000 < n + ctW cs[k].c then 20001 else weightA (n + ctW cs[k].c) ((cs.drop (k + 1)).map (·.c))) := by
        rw [Hid, List.drop_eq_getElem_cons hlt, List.map_cons, weightA]
      clear hc
      generalize cs[k] = m at *
      have d1 := HLOW.out.name
      have d2 := HLOW.out.image
      have d3 := HLOW.out.lp
      have d4 := HLOW.out.lc
      have d5 := HLOW.out.le
      have HCW : Hid (ctW m.c = 20 + m.c.name.size + m.c.image.size + 10 * m.c.ports.length + cmdW m.c.cmd + envW m.c.env) := rfl
      have HPC : Hid (∀ j, cmdW (m.c.cmd.take j) ≤ 4194304000000) := fun j => take_sum_le _ _ 1048586 j (fun s hs => by have := HLOW.out.cmd s hs; omega) d4 (by omega)
      have HPE : Hid (∀ j, envW (m.c.env.take j) ≤ 4194304000000) := fun j => take_sum_le _ _ 2097162 j (fun v hv => by have := HLOW.out.env v hv; omega) d5 (by omega)
      have hn0 : (n : Int) + (20 + (m.c.name.size : Int) + (m.c.image.size : Int) + 10 * (m.c.ports.length : Int)) = ((n + (20 + m.c.name.size + m.c.image.size + 10 * m.c.ports.length) : Nat) : Int) := by omega
      obtain ⟨s0, hs0⟩ : ∃ s0, s0 = n + (20 + m.c.name.size + m.c.image.size + 10 * m.c.ports.length) := ⟨_, rfl⟩
      rw [← hs0] at hn0
      have HS0 := Lib.hid hs0
      have hsb : s0 ≤ 20000000 := by omega
      clear hs0
      have HB1 := Lib.hid (at_new wr (.cells #[.string m.c.name, .string m.c.image, .slice m.ca m.c.cmd.length m.cc, .slice m.pa m.c.ports.length m.pc, .int .i64 m.c.cpu, .int .i64 m.c.mem, .slice m.ea m.c.env.length m.ec] 126))
      have HF1 := Lib.hid ((Fresh.refl wr).alloc (.cells #[.string m.c.name, .string m.c.image, .slice m.ca m.c.cmd.length m.cc, .slice m.pa m.c.ports.length m.pc, .int .i64 m.c.cpu, .int .i64 m.c.mem, .slice m.ea m.c.env.length m.ec] 126))
      go_wp2
      generalize wr.alloc (.cells #[.string m.c.name, .string m.c.image, .slice m.ca m.c.cmd.length m.cc, .slice m.pa m.c.ports.length m.pc, .int .i64 m.c.cpu, .int .i64 m.c.mem, .slice m.ea m.c.env.length m.ec] 126) = W1 at *
      clear c0 c1 c2 c3 c4 c5 c6
      go_loopw [3, 42] (fun a3 a42 wq => ∃ (j s : Nat), a42 = .int .i64 (j : Int) ∧ a3 = .int .i64 (s : Int) ∧ j ≤ m.c.cmd.length ∧ Hid (s = s0 + cmdW (m.c.cmd.take j)) ∧ W1 = wq) (fun _ a42 _ => m.c.cmd.length - (intOf a42).toNat)
      case atStart => exact ⟨0, s0, rfl, rfl, Nat.zero_le _, by simp [Hid, cmdW], rfl⟩
      case round =>
        obtain ⟨j, s, rfl, rfl, hj, HS, rfl⟩ := hrel
        have hs1 : s ≤ 4194324000000 := by have := HS.out; have := HPC.out j; omega
        by_cases hlt2 : j < m.c.cmd.length
        · obtain ⟨g2, o2, e2, hc2⟩ := trow_form (HIN.out.cmd.move HF1.out) hlt2
          have c1 := hc2 j hlt2
          have HSN : Hid (cmdW (m.c.cmd.take (j + 1)) = cmdW (m.c.cmd.take j) + (10 + m.c.cmd[j].size)) := sum_snoc _ _ j hlt2
          have hx := HLOW.out.cmd _ (List.getElem_mem hlt2)
          clear hc2
          generalize m.c.cmd[j] = x at *
          have hadd : (s : Int) + (10 + (x.size : Int)) = ((s + (10 + x.size) : Nat) : Int) := by omega
          have HS2 : Hid (s + (10 + x.size) = s0 + cmdW (m.c.cmd.take (j + 1))) := by rw [Hid, HSN.out, HS.out]; omega
          generalize hs2 : s + (10 + x.size) = s2 at *
          clear hs2
          rw [e2]
          go_wp2
          all_goals try (exfalso; omega)
          go_roundw
          case rel => exact ⟨j + 1, s2, by simp, rfl, by omega, HS2.out, by trivial⟩
          case measure => simp [intOf]; omega
        · obtain rfl : j = m.c.cmd.length := by omega
          have HS3 : Hid (s = s0 + cmdW m.c.cmd) := by have := HS.out; rw [List.take_length] at this; exact this
          have HB6 := cell_of_at HB1.out (i := 6) (v := .slice m.ea m.c.env.length m.ec) rfl
          clear HS
          go_wp2
          all_goals try (exfalso; omega)
          go_loopw [3, 55] (fun a3 a55 wq => ∃ (j s' : Nat), a55 = .int .i64 (j : Int) ∧ a3 = .int .i64 (s' : Int) ∧ j ≤ m.c.env.length ∧ Hid (s' = s + envW (m.c.env.take j)) ∧ Hid (Fresh W1 wq)) (fun _ a55 _ => m.c.env.length - (intOf a55).toNat)
          case atStart => exact ⟨0, s, rfl, rfl, Nat.zero_le _, by simp [Hid, envW], Fresh.refl _⟩
          case round =>
            obtain ⟨j, s', rfl, rfl, hj, HS, HFq⟩ := hrel
            have hs1' : s' ≤ 8388628000000 := by have := HS.out; have := HPE.out j; omega
            by_cases hlt2 : j < m.c.env.length
            · obtain ⟨g2, o2, e2, hc2⟩ := erow_form ((HIN.out.env.move HF1.out).move HFq.out) hlt2
              obtain ⟨c1, c2⟩ := hc2 j hlt2
              have HSN : Hid (envW (m.c.env.take (j + 1)) = envW (m.c.env.take j) + (10 + m.c.env[j].1.size + m.c.env[j].2.size)) := sum_snoc _ _ j hlt2
              obtain ⟨hx, hy⟩ := HLOW.out.env _ (List.getElem_mem hlt2)
              clear hc2
              generalize m.c.env[j].1 = x at *
              generalize m.c.env[j].2 = y at *
              have hadd : (s' : Int) + (10 + (x.size : Int) + (y.size : Int)) = ((s' + (10 + x.size + y.size) : Nat) : Int) := by omega
              have HS2 : Hid (s' + (10 + x.size + y.size) = s + envW (m.c.env.take (j + 1))) := by rw [Hid, HSN.out, HS.out]; omega
              generalize hs2 : s' + (10 + x.size + y.size) = s2 at *
              clear hs2
              rw [e2]
              go_wp2
              all_goals try (exfalso; omega)
              go_roundw
              case rel => exact ⟨j + 1, s2, by simp, rfl, by omega, HS2.out, HFq.out.alloc _⟩
              case measure => simp [intOf]; omega
            · obtain rfl : j = m.c.env.length := by omega
              have HS4 : Hid (n + ctW m.c = s') := by
                have h1 := HS.out
                rw [List.take_length] at h1
                have h2 := HS3.out
                have h3 := HS0.out
                have h4 := HCW.out
                rw [Hid]; omega
              rw [HS4.out] at HE2
              clear HS
              by_cases hbig : 20000 < s'
              · have HR : Hid (weightA (name.size + ns.size) (cs.map (·.c)) = 20001) := by rw [Hid, HE.out, HE2.out, if_pos hbig]
                go_wp2
                all_goals try (exfalso; omega)
                go_ret
                exact ⟨ret_int (by rw [HR.out]; rfl), ((HF0.out.trans HF.out).trans HF1.out).trans HFq.out⟩
              · have HR : Hid (weightA (name.size + ns.size) (cs.map (·.c)) = weightA s' ((cs.drop (k + 1)).map (·.c))) := by rw [Hid, HE.out, HE2.out, if_neg hbig]
                go_wp2
                all_goals try (exfalso; omega)
                go_roundw
                case rel => exact ⟨k + 1, s', by simp, rfl, by omega, by omega, HR.out, (HF.out.trans HF1.out).trans HFq.out⟩
                case measure => simp [intOf]; omega
    · obtain rfl : k = cs.length := by omega
      have HE3 : Hid (weightA (name.size + ns.size) (cs.map (·.c)) = n) := by rw [Hid, HE.out, List.drop_length]; rfl
      go_wp2
      all_goals try (exfalso; omega)
      go_ret
      exact ⟨ret_int (by rw [HE3.out]), HF0.out.trans HF.out⟩
end Go.Proofs.YtldncgelghcjeaaGreatDoor
namespace Go.Proofs.YtldncgelghcjeaaGreatDoor
open Go.ChangeShapes Go.WideShapes Go.ChangeAt Go.RowKit

theorem mem_sum {α : Type} (f : α → Nat) {l : List α} {x : α} (h : x ∈ l) : f x ≤ (l.map f).sum := by
  induction l with
  | nil => cases h
  | cons y l ih =>
    rw [List.map_cons, List.sum_cons]
    rcases List.mem_cons.1 h with rfl | h
    · omega
    · have := ih h; omega
theorem len_sum {α : Type} (f : α → Nat) (b : Nat) (l : List α) (h : ∀ x, b ≤ f x) : l.length * b ≤ (l.map f).sum := by
  induction l with
  | nil => simp
  | cons y l ih =>
    rw [List.map_cons, List.sum_cons, List.length_cons, Nat.succ_mul]
    have := h y
    omega
/-- A container that is small. -/
structure Ct.Sml (c : Ct) : Prop where
  name : c.name.size ≤ 1048576
  image : c.image.size ≤ 1048576
  lc : c.cmd.length ≤ 1048576
  lp : c.ports.length ≤ 1048576
  le : c.env.length ≤ 1048576
  cmd : ∀ s ∈ c.cmd, s.size ≤ 1048576
  env : ∀ v ∈ c.env, v.1.size ≤ 1048576 ∧ v.2.size ≤ 1048576
theorem sml_of {c : Ct} (h : ctW c ≤ 20000) : c.Sml := by
  unfold ctW cmdW envW at h
  have h1 := len_sum (fun s : ByteArray => 10 + s.size) 10 c.cmd (fun s => by omega)
  have h2 := len_sum (fun v : ByteArray × ByteArray => 10 + v.1.size + v.2.size) 10 c.env (fun s => by omega)
  exact { name := by omega, image := by omega, lc := by omega, lp := by omega, le := by omega,
          cmd := fun s hs => by have := mem_sum (fun s : ByteArray => 10 + s.size) hs; omega,
          env := fun v hv => by have := mem_sum (fun v : ByteArray × ByteArray => 10 + v.1.size + v.2.size) hv; omega }
theorem weightA_le : ∀ (l : List Ct) (n : Nat), weightA n l ≤ 20000 → n + l.length * 20 ≤ 20000 ∧ ∀ c ∈ l, ctW c ≤ 20000
  | [], n, h => by
    rw [weightA] at h
    exact ⟨by simpa using h, fun c hc => by cases hc⟩
  | c :: r, n, h => by
    rw [weightA] at h
    by_cases hb : 20000 < n + ctW c
    · rw [if_pos hb] at h; omega
    · rw [if_neg hb] at h
      obtain ⟨h1, h2⟩ := weightA_le r _ h
      have h20 : 20 ≤ ctW c := by unfold ctW; omega
      refine ⟨by rw [List.length_cons, Nat.succ_mul]; omega, fun x hx => ?_⟩
      rcases List.mem_cons.1 hx with rfl | hx
      · omega
      · exact h2 x hx
/-- A pod that is small. -/
structure Pd.Sml (p : Pd) : Prop where
  name : p.name.size ≤ 1048576
  ns : p.ns.size ≤ 1048576
  len : p.cs.length ≤ 1048576
  cs : ∀ c ∈ p.cs, c.Sml
theorem pod_sml {p : Pd} (h : weight p ≤ 20000) : p.Sml := by
  obtain ⟨h1, h2⟩ := weightA_le p.cs _ h
  exact ⟨by omega, by omega, by omega, fun c hc => sml_of (h2 c hc)⟩
theorem Ct.Low.sml {c : Ct} (h : c.Low) : c.Sml := ⟨h.name, h.image, h.lc, h.lp, h.le, h.cmd, h.env⟩
theorem PM.Low.sml {p : PM} (h : p.Low) : p.pd.Sml := ⟨h.name, h.ns, by simpa [PM.pd] using h.len, fun c hc => by
  obtain ⟨m, hm, rfl⟩ := List.mem_map.1 hc
  exact (h.cs m hm).sml⟩
end Go.Proofs.YtldncgelghcjeaaGreatDoor
namespace Go.Proofs.YtldncgelghcjeaaGreatDoor
open Go.ChangeShapes Go.WideShapes Go.ChangeAt Go.RowKit
attribute [local go_sem ↓] Go.wp_at_zero Go.wp_at_succ

theorem ctE_name (al : List ByteArray) (c : Ct) : ctE al c = if nameE (labB c.name.data.toList) c.name al = 0 then restE c else nameE (labB c.name.data.toList) c.name al := by
  unfold ctE nameE
  cases labB c.name.data.toList <;> cases memT c.name al <;> simp
theorem restE_all {c : Ct} (h : imgB c.image.data.toList = true) (h2 : manyE c = false) (h3 : rangeE c = false) : restE c = if cmdE c.cmd = 0 then (if portsE [] c.ports = 0 then envE [] c.env else portsE [] c.ports) else cmdE c.cmd := by
  unfold restE
  rw [if_pos h, if_neg (by rw [h2]; decide), if_neg (by rw [h3]; decide)]
set_option maxRecDepth 100000 in
set_option maxHeartbeats 4000000 in
/-- w0: a world ahead, in which the container's rows lay; block b, made behind it, holds the names that were met. -/
theorem fault_any (m : CM) (w0 w : World) (b n : Nat) (L : List ByteArray) (hT : Tabs w0) (hm : m.In w0) (hs : m.c.Sml) (hcap : m.c.ports.length ≤ m.pc) (hf0 : Fresh w0 w) (hb : w0.heap.size ≤ b) (hn : n ≤ 1048576) (hS : seenIs w b n L) :
    Calls Tryz.prog 126 #[m.val, .map (some b)] w fun e w' => e = .returned (.int .i64 (ctE L m.c)) ∧ (ctE L m.c = 0 → seenIs w' b (n + 1) (L ++ [m.c.name])) ∧ Fresh w0 w' := by
  obtain ⟨⟨s0, s1, lc, lp, n4, n5, le⟩, ca, cc, pa, pc, ea, ec⟩ := m
  have HSM := Lib.hid hs
  have HNE := Lib.hid (ctE_name L ⟨s0, s1, lc, lp, n4, n5, le⟩)
  have HLN := Lib.hid (fun W => label_any s0 W (Nat.le_trans (show s0.size ≤ 1048576 from HSM.out.name) (by unfold maxLen; omega)))
  have HIM := Lib.hid (fun W => image_any s1 W (Nat.le_trans (show s1.size ≤ 1048576 from HSM.out.image) (by unfold maxLen; omega)))
  have HF0 := Lib.hid hf0
  have HCM := Lib.hid (fun W (f : Fresh w0 W) => cmdFault_any lc ca cc W (hT.move f) (hm.cmd.move f) (by have := HSM.out.lc; dsimp only at this; omega) (fun s h => by have := HSM.out.cmd s h; omega))
  have HPO := Lib.hid (fun W (f : Fresh w0 W) => portsFault_any lp pa pc W (hm.ports.move f) (by have := HSM.out.lp; dsimp only at this; omega) hcap)
  have HEN := Lib.hid (fun W (f : Fresh w0 W) => envFault_any le ea ec W (hT.move f) (hm.env.move f) (by have := HSM.out.le; dsimp only at this; omega) (fun s h => by have := HSM.out.env s h; omega))
  have HBB := Lib.hid hb
  have HSN := Lib.hid hS
  have HZ : Hid (s0.size ≤ 1048576) := by have := HSM.out.name; rw [Hid]; dsimp only at this; omega
  have HIMG := Lib.hid (fun (h : imgB s1.data.toList = false) => (show restE ⟨s0, s1, lc, lp, n4, n5, le⟩ = 6 by unfold restE; rw [if_neg (by rw [h]; decide)]))
  have HMANY := Lib.hid (fun (h : imgB s1.data.toList = true) (h2 : manyE ⟨s0, s1, lc, lp, n4, n5, le⟩ = true) => (show restE ⟨s0, s1, lc, lp, n4, n5, le⟩ = 18 by unfold restE; rw [if_pos h, if_pos h2]))
  have HRANGE := Lib.hid (fun (h : imgB s1.data.toList = true) (h2 : manyE ⟨s0, s1, lc, lp, n4, n5, le⟩ = false) (h3 : rangeE ⟨s0, s1, lc, lp, n4, n5, le⟩ = true) => (show restE ⟨s0, s1, lc, lp, n4, n5, le⟩ = 7 by unfold restE; rw [if_pos h, if_neg (by rw [h2]; decide), if_pos h3]))
  have HALL := Lib.hid (fun (h : imgB s1.data.toList = true) (h2 : manyE ⟨s0, s1, lc, lp, n4, n5, le⟩ = false) (h3 : rangeE ⟨s0, s1, lc, lp, n4, n5, le⟩ = false) => @restE_all ⟨s0, s1, lc, lp, n4, n5, le⟩ h h2 h3)
  have HMD : Hid (manyE ⟨s0, s1, lc, lp, n4, n5, le⟩ = (decide (16 < lc.length) || (decide (16 < lp.length) || decide (16 < le.length)))) := rfl
  have HRD : Hid (rangeE ⟨s0, s1, lc, lp, n4, n5, le⟩ = (decide (n4 < 1) || (decide (64000 < n4) || (decide (n5 < 1) || decide (1048576 < n5))))) := rfl
  have HBX := Lib.hid (at_new w (.cells #[.string s0, .string s1, .slice ca lc.length cc, .slice pa lp.length pc, .int .i64 n4, .int .i64 n5, .slice ea le.length ec] 126))
  have HF1 := Lib.hid ((Fresh.refl w).alloc (.cells #[.string s0, .string s1, .slice ca lc.length cc, .slice pa lp.length pc, .int .i64 n4, .int .i64 n5, .slice ea le.length ec] 126))
  dsimp only [CM.val] at *
  clear hT hm hs hcap hf0 hb hS HSM
  generalize ctE L ⟨s0, s1, lc, lp, n4, n5, le⟩ = E at *
  generalize restE ⟨s0, s1, lc, lp, n4, n5, le⟩ = RE at *
  generalize manyE ⟨s0, s1, lc, lp, n4, n5, le⟩ = MN at *
  generalize rangeE ⟨s0, s1, lc, lp, n4, n5, le⟩ = RN at *
  generalize cmdE lc = CE at *
  generalize portsE [] lp = PE at *
  generalize envE [] le = EE at *
  have HNF : Hid (∀ W, W.heap[b]? = w.heap[b]? → Calls Tryz.prog 155 #[.string s0, .bool (labB s0.data.toList), .map (some b)] W fun e w' => e = .returned (.int .i64 (nameE (labB s0.data.toList) s0 L)) ∧ (nameE (labB s0.data.toList) s0 L = 0 → seenIs w' b (n + 1) (L ++ [s0])) ∧ W.grownBy w' (some b)) := fun W hW =>
    nameFault_any s0 _ b n L W HZ.out (by omega) (HSN.out.move hW)
  generalize nameE (labB s0.data.toList) s0 L = ne at *
  generalize labB s0.data.toList = lb at *
  generalize imgB s1.data.toList = ib at *
  generalize lc.length = z1 at *
  generalize lp.length = z2 at *
  generalize le.length = z3 at *
  have HSB : Hid ((w.alloc (.cells #[.string s0, .string s1, .slice ca z1 cc, .slice pa z2 pc, .int .i64 n4, .int .i64 n5, .slice ea z3 ec] 126)).heap[b]? = w.heap[b]?) := HF1.out.block b HSN.out.lt
  have HNB : Hid (w.heap.size ≠ b) := by have := HSN.out.lt; rw [Hid]; omega
  go_enter Tryz.func126, Tryz.ntmps126
  go_wp2_with (fail)
  all_goals try (exfalso; omega)
  generalize hW1 : w.alloc (.cells #[.string s0, .string s1, .slice ca z1 cc, .slice pa z2 pc, .int .i64 n4, .int .i64 n5, .slice ea z3 ec] 126) = W1 at *
  clear hW1
  generalize hz : w.heap.size = z at *
  clear hz
  have r0 := cell_of_at HBX.out (i := 0) (v := .string s0) rfl
  have HKP : Hid (∀ w', W1.drew.grownBy w' (some b) → w'.cell? ⟨z, 0, none⟩ = some (.string s0) ∧ Box7 126 w' z s0 s1 (.slice ca z1 cc) (.slice pa z2 pc) n4 n5 (.slice ea z3 ec) ∧ Fresh w0 w') := fun w' hg =>
    ⟨cell_grown hg (cell_of_at HBX.out (i := 0) (v := .string s0) rfl) HNB.out, (hg.block z (lt_of_at HBX.out) (fun e => HNB.out (Option.some.inj e))).trans HBX.out, (HF0.out.trans HF1.out).drew.grown hg (fun g e => by cases e; exact HBB.out)⟩
  have HV2 := Lib.hid (HLN.out W1.drew)
  have HQ2 := Lib.hid (HNF.out W1.drew HSB.out)
  go_region_held3 (fun w' => w'.cell? ⟨z, 0, none⟩ = some (.string s0)) (go_keep)
    (first | (go_at_call 121; (with_reducible refine HV2.out.mono ?_); rintro e W2 ⟨rfl, rfl⟩) | (go_at_call 155; (with_reducible refine HQ2.out.mono ?_); rintro e W2 ⟨rfl, hs5, hg⟩; have HS5 := Lib.hid hs5; obtain ⟨k0, k1, k2⟩ := HKP.out _ hg; have HF5 := Lib.hid k2; have HB5 := Lib.hid k1; clear hs5 hg k2 k1))
  clear r0 k0 HV2 HQ2 HKP HNF HLN
  by_cases hne : ne = 0
  case neg =>
    have HR : Hid (E = ne) := by rw [Hid, HNE.out, if_neg hne]
    have e0 : (ne == 0) = false := by rw [beq_eq_false_iff_ne]; exact hne
    have e1 : (ne != 0) = true := by simp [hne]
    have HR3 := Lib.hid hne
    clear hne
    go_wp2
    all_goals try (exfalso; omega)
    go_ret
    exact ⟨ret_int HR.out.symm, fun e => absurd (HR.out.symm.trans e) HR3.out, HF5.out⟩
  have HE1 : Hid (E = RE) := by rw [Hid, HNE.out, if_pos hne]
  have HS6 := Lib.hid (HS5.out hne)
  subst hne
  clear HNE HS5 HSN
  obtain ⟨⟨c0, c1, c2, c3, c4, c5, c6⟩, _⟩ := HB5.out.cells
  clear c0
  cases ib with
  | false =>
    have HR : Hid (E = 6) := HE1.out.trans (HIMG.out rfl)
    clear HIMG HMANY HRANGE HALL
    go_wp2_with (go_at_call 156; refine (HIM.out _).mono ?_; rintro e w' ⟨rfl, rfl⟩)
    all_goals try (exfalso; omega)
    go_ret
    exact ⟨ret_int HR.out.symm, fun e => absurd (HR.out.symm.trans e) (by decide), HF5.out⟩
  | true =>
    cases MN with
    | true =>
      have HR : Hid (E = 18) := HE1.out.trans (HMANY.out rfl rfl)
      have hd : 16 < z1 ∨ 16 < z2 ∨ 16 < z3 := by
        have := HMD.out.symm
        simp only [Bool.or_eq_true, decide_eq_true_eq] at this
        exact this
      clear HIMG HMANY HRANGE HALL HMD HRD
      go_wp2_with (go_at_call 156; refine (HIM.out _).mono ?_; rintro e w' ⟨rfl, rfl⟩)
      all_goals try (exfalso; omega)
      all_goals go_ret
      all_goals exact ⟨ret_int HR.out.symm, fun e => absurd (HR.out.symm.trans e) (by decide), HF5.out⟩
    | false =>
      have hd : z1 ≤ 16 ∧ z2 ≤ 16 ∧ z3 ≤ 16 := by
        have := HMD.out.symm
        simp only [Bool.or_eq_false_iff, decide_eq_false_iff_not] at this
        omega
      obtain ⟨d1, d2, d3⟩ := hd
      obtain ⟨mx, hmx⟩ : ∃ mx : Int, (if (if z1 < z2 then (z2 : Int) else (z1 : Int)) < (z3 : Int) then (z3 : Int) else if z1 < z2 then (z2 : Int) else (z1 : Int)) = mx := ⟨_, rfl⟩
      have hm16 : mx ≤ 16 := by rw [← hmx]; split <;> split <;> omega
      cases RN with
      | true =>
        have HR : Hid (E = 7) := HE1.out.trans (HRANGE.out rfl rfl rfl)
        have hd : n4 < 1 ∨ 64000 < n4 ∨ n5 < 1 ∨ 1048576 < n5 := by
          have := HRD.out.symm
          simp only [Bool.or_eq_true, decide_eq_true_eq] at this
          exact this
        clear HIMG HMANY HRANGE HALL HMD HRD
        have HW1 := Lib.hid (fun W => within_any n4 64000 W)
        have HW2 := Lib.hid (fun W => within_any n5 1048576 W)
        by_cases hw : 1 ≤ n4 ∧ n4 ≤ 64000
        · rw [decide_eq_true hw.1, decide_eq_true hw.2] at HW1
          have hw3 : (decide (1 ≤ n5) && decide (n5 ≤ 1048576)) = false := by
            rw [Bool.eq_false_iff]; intro e
            simp only [Bool.and_eq_true, decide_eq_true_eq] at e
            omega
          rw [hw3] at HW2
          clear hw hw3 hd
          go_wp2_with (fail)
          all_goals try (exfalso; omega)
          refine (HIM.out _).mono ?_
          rintro e w' ⟨rfl, rfl⟩
          go_wp2_with (fail)
          all_goals try (exfalso; omega)
          refine (HW1.out _).mono ?_
          rintro e w' ⟨rfl, rfl⟩
          go_wp2_with (fail)
          all_goals try (exfalso; omega)
          refine (HW2.out _).mono ?_
          rintro e w' ⟨rfl, rfl⟩
          go_wp2
          all_goals try (exfalso; omega)
          go_ret
          exact ⟨ret_int HR.out.symm, fun e => absurd (HR.out.symm.trans e) (by decide), HF5.out⟩
        · have hw3 : (decide (1 ≤ n4) && decide (n4 ≤ 64000)) = false := by
            rw [Bool.eq_false_iff]; intro e
            simp only [Bool.and_eq_true, decide_eq_true_eq] at e
            exact hw e
          rw [hw3] at HW1
          clear hw hw3 hd HW2
          go_wp2_with (fail)
          all_goals try (exfalso; omega)
          refine (HIM.out _).mono ?_
          rintro e w' ⟨rfl, rfl⟩
          go_wp2_with (fail)
          all_goals try (exfalso; omega)
          refine (HW1.out _).mono ?_
          rintro e w' ⟨rfl, rfl⟩
          go_wp2
          all_goals try (exfalso; omega)
          go_ret
          exact ⟨ret_int HR.out.symm, fun e => absurd (HR.out.symm.trans e) (by decide), HF5.out⟩
      | false =>
        have hd : 1 ≤ n4 ∧ n4 ≤ 64000 ∧ 1 ≤ n5 ∧ n5 ≤ 1048576 := by
          have := HRD.out.symm
          simp only [Bool.or_eq_false_iff, decide_eq_false_iff_not] at this
          omega
        have HE2 : Hid (E = if CE = 0 then (if PE = 0 then EE else PE) else CE) := HE1.out.trans (HALL.out rfl rfl rfl)
        have HW1 := Lib.hid (fun W => within_any n4 64000 W)
        have HW2 := Lib.hid (fun W => within_any n5 1048576 W)
        rw [decide_eq_true hd.1, decide_eq_true hd.2.1] at HW1
        rw [decide_eq_true hd.2.2.1, decide_eq_true hd.2.2.2] at HW2
        clear hd HIMG HMANY HRANGE HALL HMD HRD HE1
        go_wp2_with (fail)
        all_goals try (exfalso; omega)
        refine (HIM.out _).mono ?_
        rintro e w' ⟨rfl, rfl⟩
        go_wp2_with (fail)
        all_goals try (exfalso; omega)
        refine (HW1.out _).mono ?_
        rintro e w' ⟨rfl, rfl⟩
        go_wp2_with (fail)
        all_goals try (exfalso; omega)
        refine (HW2.out _).mono ?_
        rintro e w' ⟨rfl, rfl⟩
        go_wp2_with (fail)
        all_goals try (exfalso; omega)
        refine (HCM.out _ HF5.out).mono ?_
        rintro e V1 ⟨rfl, hf⟩
        have HF6 := Lib.hid (HF5.out.trans hf)
        have HB6 := Lib.hid (hf.at HB5.out)
        have HS7 := Lib.hid (HS6.out.fresh hf)
        clear hf c1 c2 c3 c4 c5 c6 HB5 HS6
        by_cases hce : CE = 0
        case neg =>
          have HR : Hid (E = CE) := by rw [Hid, HE2.out, if_neg hce]
          have e0 : (CE == 0) = false := by rw [beq_eq_false_iff_ne]; exact hce
          have e1 : (CE != 0) = true := by simp [hce]
          have HR3 := Lib.hid hce
          clear hce HE2
          go_wp2
          all_goals try (exfalso; omega)
          go_ret
          exact ⟨ret_int HR.out.symm, fun e => absurd (HR.out.symm.trans e) HR3.out, HF6.out⟩
        have HE3 : Hid (E = if PE = 0 then EE else PE) := by rw [Hid, HE2.out, if_pos hce]
        subst hce
        clear HE2
        obtain ⟨⟨c0, c1, c2, c3, c4, c5, c6⟩, _⟩ := Box7.cells (show Box7 126 V1 z s0 s1 (.slice ca z1 cc) (.slice pa z2 pc) n4 n5 (.slice ea z3 ec) from HB6.out)
        clear c0 c1 c2 c4 c5
        go_wp2_with (fail)
        refine (HPO.out _ HF6.out).mono ?_
        rintro e V2 ⟨rfl, hf⟩
        have HF7 := Lib.hid (HF6.out.trans hf)
        have HB7 := Lib.hid (hf.at HB6.out)
        have HS8 := Lib.hid (HS7.out.fresh hf)
        clear hf c3 c6 HB6 HS7
        by_cases hpe : PE = 0
        case neg =>
          have HR : Hid (E = PE) := by rw [Hid, HE3.out, if_neg hpe]
          have e0 : (PE == 0) = false := by rw [beq_eq_false_iff_ne]; exact hpe
          have e1 : (PE != 0) = true := by simp [hpe]
          have HR3 := Lib.hid hpe
          clear hpe HE3
          go_wp2
          all_goals try (exfalso; omega)
          go_ret
          exact ⟨ret_int HR.out.symm, fun e => absurd (HR.out.symm.trans e) HR3.out, HF7.out⟩
        have HR : Hid (E = EE) := by rw [Hid, HE3.out, if_pos hpe]
        subst hpe
        clear HE3
        obtain ⟨⟨c0, c1, c2, c3, c4, c5, c6⟩, _⟩ := Box7.cells (show Box7 126 V2 z s0 s1 (.slice ca z1 cc) (.slice pa z2 pc) n4 n5 (.slice ea z3 ec) from HB7.out)
        clear c0 c1 c2 c3 c4 c5
        go_wp2_with (fail)
        refine (HEN.out _ HF7.out).mono ?_
        rintro e V3 ⟨rfl, hf⟩
        have HF8 := Lib.hid (HF7.out.trans hf)
        have HS9 := Lib.hid (HS8.out.fresh hf)
        clear hf c6
        go_wp2
        go_ret
        exact ⟨ret_int HR.out.symm, fun _ => HS9.out, HF8.out⟩
end Go.Proofs.YtldncgelghcjeaaGreatDoor

/-
  The document's Default, walked: one of four cases (printed by a script).
  The document's Default, for every pod.
  A pod, as the document has it: the same texts and numbers, in rows of its own.
  What isn't great: told by the texts and numbers alone.
  A pod whose texts and numbers are written over: what still stands.
-/
import Derived.Test.YtfhhmajkacjbgaaDoorDck01
import Derived.Test.YtfhhmajkacjbgaaDoorDck11
import Derived.Deep.Onto
import Derived.Test.YtfhhmajkacjbgaaDoorDck06
import Derived.Test.YtfhhmajkacjbgaaDoorDck03
namespace Go.Proofs.YtfhhmajkacjbgaaDoor
open Go.ChangeShapes Go.WideShapes Go.ChangeAt Go.RowKit

set_option maxRecDepth 100000 in
set_option maxHeartbeats 4000000 in
theorem rdef_D (name ns : ByteArray) (rs gr : Int) (ho : Bool) (a : Option Addr) (cap : Nat) (cs : List CM) (w : World) (hr : RowAt w a (ccells cs)) (hin : ∀ m ∈ cs, m.In w) (hl : cs.length ≤ 1048576) (hns : ¬ ns = ⟨#[]⟩) (hg : ¬ gr = 0) :
    Calls Tryd.prog 13 #[.agg #[.string name, .string ns, .int .i64 rs, .int .i64 gr, .bool ho, .slice a cs.length cap]] w fun e w' => ∃ a' cap', e = .returned ((PM.mk name ns rs gr ho a cap cs).dft a' cap').val ∧ ((PM.mk name ns rs gr ho a cap cs).dft a' cap').At w' ∧ Fresh w w' := by
  have HROW := Lib.hid hr
  have HINS := Lib.hid hin
  obtain ⟨i0, hi, hz0, hz1, hz2⟩ := info_parts infoC
  dsimp only [PM.val] at *
  clear hr hin
  obtain ⟨ns2, hns2⟩ : ∃ s, s = if ns.size = 0 then nsDef else ns := ⟨_, rfl⟩
  obtain ⟨gr2, hgr2⟩ : ∃ s, s = if gr = 0 then (30 : Int) else gr := ⟨_, rfl⟩
  have HD : Hid (∀ a' cap', (PM.mk name ns rs gr ho a cap cs).dft a' cap' = ⟨name, ns2, rs, gr2, ho, a', cap', cs.map CM.dft⟩) := fun a' cap' => by
    rw [hns2, hgr2]; rfl
  have HN : Hid (ns2 = ns) := hns2.trans (if_neg (fun e => hns (ByteArray.ext (Array.eq_empty_of_size_eq_zero e))))
  have HG : Hid (gr2 = gr) := hgr2.trans (if_neg hg)
  have e0 := tl_some hns
  clear hns2 hgr2
  have e1 : (gr == 0) = false := by rw [beq_eq_false_iff_ne]; exact hg
  go_enter Tryd.func13, Tryd.ntmps13
  go_wp2
  refine (fun W0 hpre => ?_ : ∀ W0, DPre 30 w W0 name ns2 rs gr2 ho a cs.length cap → Code.wp _ _ _ _ W0) _ (by
      rw [HN.out, HG.out]
      first
        | exact dpre0 _ _ _ _ _ _ _ _ _ _
        | exact (dpre0 _ _ _ _ _ _ _ _ _ _).setNs _
        | exact (dpre0 _ _ _ _ _ _ _ _ _ _).setGr _
        | exact ((dpre0 _ _ _ _ _ _ _ _ _ _).setNs _).setGr _)
  clear HN HG
  have HA1 := Lib.hid hpre.at1
  have HA2 := Lib.hid hpre.at2
  have HF0 := Lib.hid hpre.fr
  have HS0 := Lib.hid hpre.sz
  have HROW0 := Lib.hid (HROW.out.move hpre.fr)
  clear hpre HROW
  try clear e0
  have hcs : ((cs.take cs.length).map CM.dft) = cs.map CM.dft := by rw [List.take_length]
  have HCS := Lib.hid hcs
  clear hcs
  obtain ⟨b, hb⟩ : ∃ b, b = w.heap.size := ⟨_, rfl⟩
  rw [← hb] at HA1 HA2 HS0 ⊢
  have HBW := Lib.hid hb
  clear hb
  go_loopw [3, 4] (fun a3 a4 wr => ∃ (k : Nat) (v : Value), a3 = v ∧ a4 = .int .i64 (k : Int) ∧ k ≤ cs.length ∧ Hid (CBuf 60 wr (b + 2) v ((cs.take k).map CM.dft)) ∧ Hid (Fresh W0 wr)) (fun _ a4 _ => cs.length - (intOf a4).toNat)
  case atStart => exact ⟨0, _, rfl, rfl, Nat.zero_le _, World.ownsRow_nil _ _ _ _, Fresh.refl _⟩
  case round =>
    obtain ⟨k, v, rfl, rfl, hk, HB, HF⟩ := hrel
    obtain ⟨o, c, hv⟩ := cbuf_shape HB.out
    have hml : ((cs.take k).map CM.dft).length = k := by rw [List.length_map, List.length_take]; omega
    rw [hml] at hv
    subst hv
    obtain ⟨⟨p0, p1, p2, p3, p4, p5⟩, hfz⟩ := box6p (HF.out.at HA1.out)
    have HFZ := Lib.hid hfz
    by_cases hlt : k < cs.length
    · obtain ⟨g, o1, rfl, hc⟩ := crow_form (HROW0.out.move HF.out) hlt
      obtain ⟨c0, c1, c2, c3, c4, c5, c6⟩ := hc k hlt
      have HN : Hid ((cs.take (k + 1)).map CM.dft = (cs.take k).map CM.dft ++ [cs[k].dft]) := by
        rw [Hid, List.take_succ_eq_append_getElem hlt, List.map_append]; rfl
      obtain ⟨m, hm⟩ : ∃ m, m = cs[k] := ⟨_, rfl⟩
      rw [← hm] at c0 c1 c2 c3 c4 c5 c6 HN
      have HM := Lib.hid hm
      clear hc hm hml hfz
      have HSET := Lib.hid (box7_set 60 wr m.c.name m.c.image (.slice m.ca m.c.cmd.length m.cc) (.slice m.pa m.c.ports.length m.pc) m.c.cpu m.c.mem (.slice m.ea m.c.env.length m.ec))
      have HDFT : Hid (m.dft.cells = [.string m.c.name, .string m.c.image, .slice m.ca m.c.cmd.length m.cc, .slice m.pa m.c.ports.length m.pc, .int .i64 (if m.c.cpu = 0 then 100 else m.c.cpu), .int .i64 (if m.c.mem = 0 then 64 else m.c.mem), .slice m.ea m.c.env.length m.ec]) := rfl
      generalize m.c.name = mn at *
      generalize m.c.image = mi at *
      generalize m.c.cmd.length = lc at *
      generalize m.c.ports.length = lp at *
      generalize m.c.env.length = le at *
      generalize m.c.cpu = cpu at *
      generalize m.c.mem = mem at *
      generalize m.ca = ca at *
      generalize m.cc = cc at *
      generalize m.pa = pa at *
      generalize m.pc = pc at *
      generalize m.ea = ea at *
      generalize m.ec = ec at *
      have hbs : b + 2 ≤ wr.heap.size := by have := HF.out.size; have := HS0.out; omega
      have HB2 : Hid (wr.ownsRow (b + 2) 60 7 (.slice o k c) k (ccells ((cs.take k).map CM.dft))) := by
        have := HB.out
        unfold CBuf at this
        rw [List.length_map, List.length_take, Nat.min_eq_left (by omega)] at this
        exact this
      have HLT : Hid (∀ g, (Value.slice o k c).ownBlock = some g → W0.heap.size ≤ g) := fun g e => by have := (World.ownsRow.lt HB2.out g e).1; have := HS0.out; omega
      have HLK : Hid (((cs.take k).map CM.dft).length = k) := by rw [Hid, List.length_map, List.length_take]; omega
      have HNEWS : Hid (∀ x y : Int, ∀ j u, [Value.string mn, .string mi, .slice ca lc cc, .slice pa lp pc, .int .i64 x, .int .i64 y, .slice ea le ec][j]? = some u → ((wr.alloc (.cells #[.string mn, .string mi, .slice ca lc cc, .slice pa lp pc, .int .i64 x, .int .i64 y, .slice ea le ec] 60)).alloc (.cells #[.string mn, .string mi, .slice ca lc cc, .slice pa lp pc, .int .i64 x, .int .i64 y, .slice ea le ec] 60)).cell? ((⟨wr.heap.size + 1, 0, none⟩ : Addr).add j) = some u) := fun x y => by
        have := news7 (wr.alloc (.cells #[.string mn, .string mi, .slice ca lc cc, .slice pa lp pc, .int .i64 x, .int .i64 y, .slice ea le ec] 60)) 60 [.string mn, .string mi, .slice ca lc cc, .slice pa lp pc, .int .i64 x, .int .i64 y, .slice ea le ec]
        rw [World.size_alloc] at this
        exact this
      have HMORE : Hid (∀ (A : World) (u : Value), A.ownsRow (b + 2) 60 7 u (k + 1) (ccells ((cs.take k).map CM.dft) ++ m.dft.cells) → CBuf 60 A (b + 2) u ((cs.take (k + 1)).map CM.dft)) := fun A u h => by
        rw [HN.out]
        exact CBuf.more (by rw [HLK.out]; exact h)
      clear HSET HLK
      by_cases h1 : cpu = 0 <;> by_cases h2 : mem = 0
      · subst h1 h2
        have HD2 : Hid (m.dft.cells = _) := HDFT.out
        rw [if_pos rfl, if_pos rfl] at HD2
        clear HDFT
        go_wp2_with (at_builtin; refine wpList_append_own _ rfl _ _ 28 rfl (b + 2) 60 i0 (.agg #[.string ⟨#[]⟩, .string ⟨#[]⟩, .slice none 0 0, .slice none 0 0, .int .i64 0, .int .i64 0, .slice none 0 0]) 7 120 Tryd.underlying28 hi hz0 hz1 hz2 rfl (by decide) _ k _ rfl (World.ownsRow.alloc (World.ownsRow.alloc HB2.out _) _) ⟨wr.heap.size + 1, 0, none⟩ 1 1 [.string mn, .string mi, .slice ca lc cc, .slice pa lp pc, .int .i64 100, .int .i64 64, .slice ea le ec] rfl rfl (HNEWS.out 100 64) (by simp [Value.oneCell']) (by unfold maxLen; omega) (by omega) (by rw [World.size_alloc, World.size_alloc]; omega) ?_; intro v' w3 hown' hgrow _; obtain ⟨g', cap', rfl⟩ := ownsRow_succ hown'; have HOWN := Lib.hid hown'; have HGROW := Lib.hid hgrow; clear hown' hgrow)
        go_roundw
        case rel => exact ⟨k + 1, _, rfl, by simp, by omega, HMORE.out _ _ (by rw [HD2.out]; exact HOWN.out), ((HF.out.alloc _).alloc _).grown HGROW.out HLT.out⟩
        case measure => simp [intOf]; omega
      · subst h1
        have HD2 : Hid (m.dft.cells = _) := HDFT.out
        rw [if_pos rfl, if_neg h2] at HD2
        clear HDFT
        go_wp2_with (at_builtin; refine wpList_append_own _ rfl _ _ 28 rfl (b + 2) 60 i0 (.agg #[.string ⟨#[]⟩, .string ⟨#[]⟩, .slice none 0 0, .slice none 0 0, .int .i64 0, .int .i64 0, .slice none 0 0]) 7 120 Tryd.underlying28 hi hz0 hz1 hz2 rfl (by decide) _ k _ rfl (World.ownsRow.alloc (World.ownsRow.alloc HB2.out _) _) ⟨wr.heap.size + 1, 0, none⟩ 1 1 [.string mn, .string mi, .slice ca lc cc, .slice pa lp pc, .int .i64 100, .int .i64 mem, .slice ea le ec] rfl rfl (HNEWS.out 100 mem) (by simp [Value.oneCell']) (by unfold maxLen; omega) (by omega) (by rw [World.size_alloc, World.size_alloc]; omega) ?_; intro v' w3 hown' hgrow _; obtain ⟨g', cap', rfl⟩ := ownsRow_succ hown'; have HOWN := Lib.hid hown'; have HGROW := Lib.hid hgrow; clear hown' hgrow)
        go_roundw
        case rel => exact ⟨k + 1, _, rfl, by simp, by omega, HMORE.out _ _ (by rw [HD2.out]; exact HOWN.out), ((HF.out.alloc _).alloc _).grown HGROW.out HLT.out⟩
        case measure => simp [intOf]; omega
      · subst h2
        have HD2 : Hid (m.dft.cells = _) := HDFT.out
        rw [if_neg h1, if_pos rfl] at HD2
        clear HDFT
        go_wp2_with (at_builtin; refine wpList_append_own _ rfl _ _ 28 rfl (b + 2) 60 i0 (.agg #[.string ⟨#[]⟩, .string ⟨#[]⟩, .slice none 0 0, .slice none 0 0, .int .i64 0, .int .i64 0, .slice none 0 0]) 7 120 Tryd.underlying28 hi hz0 hz1 hz2 rfl (by decide) _ k _ rfl (World.ownsRow.alloc (World.ownsRow.alloc HB2.out _) _) ⟨wr.heap.size + 1, 0, none⟩ 1 1 [.string mn, .string mi, .slice ca lc cc, .slice pa lp pc, .int .i64 cpu, .int .i64 64, .slice ea le ec] rfl rfl (HNEWS.out cpu 64) (by simp [Value.oneCell']) (by unfold maxLen; omega) (by omega) (by rw [World.size_alloc, World.size_alloc]; omega) ?_; intro v' w3 hown' hgrow _; obtain ⟨g', cap', rfl⟩ := ownsRow_succ hown'; have HOWN := Lib.hid hown'; have HGROW := Lib.hid hgrow; clear hown' hgrow)
        go_roundw
        case rel => exact ⟨k + 1, _, rfl, by simp, by omega, HMORE.out _ _ (by rw [HD2.out]; exact HOWN.out), ((HF.out.alloc _).alloc _).grown HGROW.out HLT.out⟩
        case measure => simp [intOf]; omega
      · have HD2 : Hid (m.dft.cells = _) := HDFT.out
        rw [if_neg h1, if_neg h2] at HD2
        clear HDFT
        go_wp2_with (at_builtin; refine wpList_append_own _ rfl _ _ 28 rfl (b + 2) 60 i0 (.agg #[.string ⟨#[]⟩, .string ⟨#[]⟩, .slice none 0 0, .slice none 0 0, .int .i64 0, .int .i64 0, .slice none 0 0]) 7 120 Tryd.underlying28 hi hz0 hz1 hz2 rfl (by decide) _ k _ rfl (World.ownsRow.alloc (World.ownsRow.alloc HB2.out _) _) ⟨wr.heap.size + 1, 0, none⟩ 1 1 [.string mn, .string mi, .slice ca lc cc, .slice pa lp pc, .int .i64 cpu, .int .i64 mem, .slice ea le ec] rfl rfl (HNEWS.out cpu mem) (by simp [Value.oneCell']) (by unfold maxLen; omega) (by omega) (by rw [World.size_alloc, World.size_alloc]; omega) ?_; intro v' w3 hown' hgrow _; obtain ⟨g', cap', rfl⟩ := ownsRow_succ hown'; have HOWN := Lib.hid hown'; have HGROW := Lib.hid hgrow; clear hown' hgrow)
        go_roundw
        case rel => exact ⟨k + 1, _, rfl, by simp, by omega, HMORE.out _ _ (by rw [HD2.out]; exact HOWN.out), ((HF.out.alloc _).alloc _).grown HGROW.out HLT.out⟩
        case measure => simp [intOf]; omega
    · obtain rfl : k = cs.length := by omega
      obtain ⟨⟨q0, q1, q2, q3, q4, q5⟩, hfz2⟩ := box6p (HF.out.at HA2.out)
      have f1 := hfz 5
      have f2 := hfz2 0
      have f3 := hfz2 1
      have f4 := hfz2 2
      have f5 := hfz2 3
      have f6 := hfz2 4
      have f7 := hfz2 5
      clear hfz hfz2
      have hbs : b + 1 < wr.heap.size := by have := HF.out.size; have := HS0.out; omega
      have HB2 : Hid (wr.ownsRow (b + 2) 60 7 (.slice o cs.length c) cs.length (ccells (cs.map CM.dft))) := by
        have := HB.out
        unfold CBuf at this
        rw [HCS.out, List.length_map] at this
        exact this
      have HCL : Hid (cs.length ≤ c) := own_le HB2.out
      have HBL : Hid (∀ ad : Addr, o = some ad → b + 2 ≤ ad.block) := fun ad e => (World.ownsRow.lt HB2.out ad.block (by rw [e]; rfl)).1
      go_wp2
      refine bodyPost_ret (v := .agg #[.string name, .string ns2, .int .i64 rs, .int .i64 gr2, .bool ho, .slice o cs.length c]) (by simp [results, Tryd.f13, go_sem, *]) rfl ⟨o, c, ?_, ⟨?_, ?_, ?_⟩, ?_⟩
      · rw [HD.out]; simp only [List.length_map]
      · rw [HD.out]
        have hr : RowAt wr o (ccells (cs.map CM.dft)) := RowAt.owns HB2.out
        repeat (refine RowAt.set ?_ (fun ad e => by have := HBL.out ad e; simp; omega) _)
        exact hr
      · rw [HD.out]
        intro m hm
        obtain ⟨m0, hm0, rfl⟩ := List.mem_map.1 hm
        refine dft_in ((HINS.out m0 hm0).move ?_)
        repeat (refine Fresh.setCell ?_ (by have := HBW.out; simp; omega) _)
        exact HF0.out.trans HF.out
      · rw [HD.out]
        simp only [List.length_map]
        exact HCL.out
      · repeat (refine Fresh.setCell ?_ (by have := HBW.out; simp; omega) _)
        exact HF0.out.trans HF.out
end Go.Proofs.YtfhhmajkacjbgaaDoor
namespace Go.Proofs.YtfhhmajkacjbgaaDoor
theorem rdefault_any (p : PM) (w : World) (h : p.At w) (hl : p.cs.length ≤ 1048576) : Calls Tryd.prog 13 #[p.val] w fun e w' => ∃ a cap, e = .returned (p.dft a cap).val ∧ (p.dft a cap).At w' ∧ Fresh w w' := by
  obtain ⟨name, ns, rs, gr, ho, a, cap, cs⟩ := p
  by_cases hns : ns = ⟨#[]⟩
  · by_cases hg : gr = 0
    · exact rdef_A name ns rs gr ho a cap cs w h.row h.ins hl hns hg
    · exact rdef_B name ns rs gr ho a cap cs w h.row h.ins hl hns hg
  · by_cases hg : gr = 0
    · exact rdef_C name ns rs gr ho a cap cs w h.row h.ins hl hns hg
    · exact rdef_D name ns rs gr ho a cap cs w h.row h.ins hl hns hg
end Go.Proofs.YtfhhmajkacjbgaaDoor
namespace Go.Proofs.YtfhhmajkacjbgaaDoor
open Go.ChangeShapes Go.WideShapes Go.ChangeAt Go.RowKit

theorem infoP : (Tryd.prog.info? 62).map (fun i => (i.zero, i.size, i.bytes)) = some (some (.agg #[.int .i64 0, .int .i64 0]), 2, 16) := by kernel_rfl
theorem infoE : (Tryd.prog.info? 65).map (fun i => (i.zero, i.size, i.bytes)) = some (some (.agg #[.string ⟨#[]⟩, .string ⟨#[]⟩]), 2, 32) := by kernel_rfl
theorem own_ne {W : World} {B B' : Nat} {e e' k k' n n' : Nat} {v v' : Value} {xs xs' : List Value} (h : W.ownsRow B e k v n xs) (h' : W.ownsRow B' e' k' v' n' xs') (hne : e ≠ e') : v.ownBlock = none ∨ v.ownBlock ≠ v'.ownBlock := by
  rcases h.2 with ⟨rfl, _⟩ | ⟨g, cap, cur, rfl, _, hg, _⟩
  · exact .inl rfl
  · refine .inr fun e2 => ?_
    rcases h'.2 with ⟨rfl, _⟩ | ⟨g', cap', cur', rfl, _, hg', _⟩
    · cases e2
    · have : g = g' := by simpa [Value.ownBlock] using e2
      subst this
      rw [hg] at hg'
      cases hg'
      exact hne rfl
theorem own_fresh {W W' : World} {B e k n : Nat} {v : Value} {xs : List Value} (h : W.ownsRow B e k v n xs) (f : Fresh W W') : W'.ownsRow B e k v n xs := by
  refine World.ownsRow.kept (row := none) h (f.grownBy' none) ?_
  rcases h' : v.ownBlock with _ | g
  · exact .inl rfl
  · exact .inr (by simp)
theorem own_set {W : World} {B e k n : Nat} {v : Value} {xs : List Value} (h : W.ownsRow B e k v n xs) {p : Addr} (hp : p.block < B) (u : Value) : (W.setCell ⟨p.block, p.off, none⟩ u).ownsRow B e k v n xs := by
  refine World.ownsRow.kept h (grown_set W p.block p.off u) ?_
  rcases h' : v.ownBlock with _ | g
  · exact .inl rfl
  · refine .inr fun e2 => ?_
    have := (World.ownsRow.lt h g h').1
    have e3 : g = p.block := by simpa using e2
    omega
theorem at_off {W : World} {b : Nat} {o : Obj} (h : W.heap[b]? = some o) {g i : Nat} (hne : b ≠ g) (v : Value) : (W.setCell ⟨g, i, none⟩ v).heap[b]? = some o := by
  rw [(grown_set W g i v).block b (lt_of_at h) (fun e => hne (by cases e; rfl))]; exact h
/-- A container of the answer: its texts lie where they lay, its ports and variables in rows of its own. -/
structure DIn (w W : World) (B : Nat) (m : CM) : Prop where
  cmd : RowAt w m.ca (tcells m.c.cmd)
  ports : W.ownsRow B 62 2 (.slice m.pa m.c.ports.length m.pc) m.c.ports.length (pcells m.c.ports)
  env : W.ownsRow B 65 2 (.slice m.ea m.c.env.length m.ec) m.c.env.length (ecells m.c.env)
theorem DIn.fresh {w W W' : World} {B : Nat} {m : CM} (h : DIn w W B m) (f : Fresh W W') : DIn w W' B m := ⟨h.cmd, own_fresh h.ports f, own_fresh h.env f⟩
theorem DIn.set {w W : World} {B : Nat} {m : CM} (h : DIn w W B m) {p : Addr} (hp : p.block < B) (u : Value) : DIn w (W.setCell ⟨p.block, p.off, none⟩ u) B m := ⟨h.cmd, own_set h.ports hp u, own_set h.env hp u⟩
theorem DIn.grow {w W W' : World} {B B' k n : Nat} {m : CM} {v : Value} {xs : List Value} (h : DIn w W B m) (hv : W.ownsRow B' 60 k v n xs) (g : W.grownBy W' v.ownBlock) : DIn w W' B m :=
  ⟨h.cmd, World.ownsRow.kept h.ports g (own_ne h.ports hv (by decide)), World.ownsRow.kept h.env g (own_ne h.env hv (by decide))⟩
theorem DIn.inn {w W : World} {B : Nat} {m : CM} (h : DIn w W B m) (f : Fresh w W) : m.In W := ⟨h.cmd.move f, RowAt.owns h.ports, RowAt.owns h.env, own_le h.ports⟩
theorem pcells_snoc (l : List (Int × Int)) (x : Int × Int) : pcells (l ++ [x]) = pcells l ++ pcell x := by simp [pcells]
theorem ecells_snoc (l : List (ByteArray × ByteArray)) (x : ByteArray × ByteArray) : ecells (l ++ [x]) = ecells l ++ ecell x := by simp [ecells]
theorem row_shape2 {w : World} {B e k n : Nat} {v : Value} {xs : List Value} (h : w.ownsRow B e k v n xs) : ∃ o c, v = .slice o n c := by
  rcases h.2 with ⟨h1, h2⟩ | ⟨g, cap, c2, h1, _⟩
  · exact ⟨none, 0, by rw [h1, h2]⟩
  · exact ⟨_, _, h1⟩
theorem DIn.mono {w W : World} {B B' : Nat} {m : CM} (h : DIn w W B m) (hb : B' ≤ B) : DIn w W B' m := ⟨h.cmd, World.ownsRow.mono h.ports hb, World.ownsRow.mono h.env hb⟩
/-- A pod as the document has it: its texts' rows lie where they lay, the other ones in memory of its own, from block B on. -/
structure OAt (w0 W : World) (B : Nat) (q : PM) : Prop where
  row : W.ownsRow B 60 7 (.slice q.a q.cs.length q.cap) q.cs.length (ccells q.cs)
  ins : ∀ m ∈ q.cs, DIn w0 W B m
theorem OAt.at {w0 W : World} {B : Nat} {q : PM} (h : OAt w0 W B q) (f : Fresh w0 W) : q.At W := ⟨RowAt.owns h.row, fun m hm => (h.ins m hm).inn f, own_le h.row⟩
theorem OAt.fresh {w0 W W' : World} {B : Nat} {q : PM} (h : OAt w0 W B q) (f : Fresh W W') : OAt w0 W' B q := ⟨own_fresh h.row f, fun m hm => (h.ins m hm).fresh f⟩
/-- A cell of a block of another type, or of one ahead, plays no part in it. -/
theorem OAt.setLow {w0 W : World} {B : Nat} {q : PM} (h : OAt w0 W B q) {p : Addr} (hp : p.block < B) (u : Value) : OAt w0 (W.setCell ⟨p.block, p.off, none⟩ u) B q := ⟨own_set h.row hp u, fun m hm => (h.ins m hm).set hp u⟩
theorem own_type {W : World} {B e k n : Nat} {v : Value} {xs : List Value} (h : W.ownsRow B e k v n xs) {z t : Nat} {cs : Array Value} {fz : Nat × Nat} (hz : W.heap[z]? = some (.cells cs t fz)) (hne : e ≠ t) (i : Nat) (u : Value) : (W.setCell ⟨z, i, none⟩ u).ownsRow B e k v n xs := by
  refine World.ownsRow.kept h (grown_set W z i u) ?_
  rcases h.2 with ⟨rfl, _⟩ | ⟨g, cap, cur, rfl, _, hg, _⟩
  · exact .inl rfl
  · refine .inr fun e2 => ?_
    have : g = z := by simpa [Value.ownBlock] using e2
    subst this
    rw [hg] at hz
    cases hz
    exact hne rfl
theorem OAt.setType {w0 W : World} {B : Nat} {q : PM} (h : OAt w0 W B q) {z t : Nat} {cs : Array Value} {fz : Nat × Nat} (hz : W.heap[z]? = some (.cells cs t fz)) (h1 : 60 ≠ t) (h2 : 62 ≠ t) (h3 : 65 ≠ t) (i : Nat) (u : Value) : OAt w0 (W.setCell ⟨z, i, none⟩ u) B q :=
  ⟨own_type h.row hz h1 i u, fun m hm => ⟨(h.ins m hm).cmd, own_type (h.ins m hm).ports hz h2 i u, own_type (h.ins m hm).env hz h3 i u⟩⟩
set_option maxRecDepth 100000 in
set_option maxHeartbeats 4000000 in
theorem of_own (p : PM) (w0 w : World) (h : p.At w0) (f0 : Fresh w0 w) (hl : p.Low) : Calls Tryd.prog 8 #[p.val] w fun e w' => ∃ q : PM, e = .returned q.val ∧ q.pd = p.pd ∧ OAt w0 w' w.heap.size q ∧ Fresh w w' := by
  obtain ⟨name, ns, rs, gr, ho, a, cap, cs⟩ := p
  have HROW := Lib.hid h.row
  have HINS := Lib.hid h.ins
  have F0 := Lib.hid f0
  have hn3 : cs.length ≤ 1048576 := hl.len
  have HLC := Lib.hid hl.cs
  obtain ⟨i0, hi, hz0, hz1, hz2⟩ := info_parts infoC
  obtain ⟨ip, hip, hp0, hp1, hp2⟩ := info_parts infoP
  obtain ⟨ie, hie, he0, he1, he2⟩ := info_parts infoE
  dsimp only [PM.val, PM.pd] at *
  clear h hl f0
  have hA := at_new ((w.alloc (.cells #[.string name, .string ns, .int .i64 rs, .int .i64 gr, .bool ho, .slice a cs.length cap] 25)).alloc (.cells #[.string ⟨#[]⟩, .string ⟨#[]⟩, .int .i64 0, .int .i64 0, .bool false, .slice none 0 0] 30)) (.cells #[.string name, .string ns, .int .i64 rs, .int .i64 gr, .bool ho, .slice none 0 0] 30)
  rw [World.size_alloc, World.size_alloc] at hA
  have hB := at_new (w.alloc (.cells #[.string name, .string ns, .int .i64 rs, .int .i64 gr, .bool ho, .slice a cs.length cap] 25)) (.cells #[.string ⟨#[]⟩, .string ⟨#[]⟩, .int .i64 0, .int .i64 0, .bool false, .slice none 0 0] 30)
  rw [World.size_alloc] at hB
  have hB := at_alloc (p := .cells #[.string name, .string ns, .int .i64 rs, .int .i64 gr, .bool ho, .slice none 0 0] 30) hB
  have HF0 := Lib.hid ((((Fresh.refl w).alloc (.cells #[.string name, .string ns, .int .i64 rs, .int .i64 gr, .bool ho, .slice a cs.length cap] 25)).alloc (.cells #[.string ⟨#[]⟩, .string ⟨#[]⟩, .int .i64 0, .int .i64 0, .bool false, .slice none 0 0] 30)).alloc (.cells #[.string name, .string ns, .int .i64 rs, .int .i64 gr, .bool ho, .slice none 0 0] 30))
  have HA := Lib.hid hA
  have HB := Lib.hid hB
  have HSZ : Hid ((((w.alloc (.cells #[.string name, .string ns, .int .i64 rs, .int .i64 gr, .bool ho, .slice a cs.length cap] 25)).alloc (.cells #[.string ⟨#[]⟩, .string ⟨#[]⟩, .int .i64 0, .int .i64 0, .bool false, .slice none 0 0] 30)).alloc (.cells #[.string name, .string ns, .int .i64 rs, .int .i64 gr, .bool ho, .slice none 0 0] 30)).heap.size = w.heap.size + 3) := by simp [Hid]
  clear hA hB
  go_enter Tryd.func8, Tryd.ntmps8
  go_wp2
  generalize ((w.alloc (.cells #[.string name, .string ns, .int .i64 rs, .int .i64 gr, .bool ho, .slice a cs.length cap] 25)).alloc (.cells #[.string ⟨#[]⟩, .string ⟨#[]⟩, .int .i64 0, .int .i64 0, .bool false, .slice none 0 0] 30)).alloc (.cells #[.string name, .string ns, .int .i64 rs, .int .i64 gr, .bool ho, .slice none 0 0] 30) = W0 at *
  obtain ⟨b, hb⟩ : ∃ b, b = w.heap.size := ⟨_, rfl⟩
  have HBW := Lib.hid hb
  rw [← hb] at HA HB HSZ ⊢
  clear hb
  have HIN : Hid (∀ m ∈ cs, m.In W0) := fun m hm => ((HINS.out m hm).move F0.out).move HF0.out
  go_loopw [25] (fun a25 wr => ∃ (k : Nat) (o : Option Addr) (c : Nat) (D : List CM), a25 = .int .i64 (k : Int) ∧ k ≤ cs.length ∧ Hid (D.length = k ∧ D.map (·.c) = (cs.take k).map (·.c)) ∧ Hid (wr.heap[b + 1]? = some (.cells #[.string ⟨#[]⟩, .string ⟨#[]⟩, .int .i64 0, .int .i64 0, .bool false, .slice none 0 0] 30)) ∧ Hid (wr.heap[b + 2]? = some (.cells #[.string name, .string ns, .int .i64 rs, .int .i64 gr, .bool ho, .slice o k c] 30)) ∧
    Hid (wr.ownsRow (b + 3) 60 7 (.slice o k c) k (ccells D)) ∧ Hid (∀ m ∈ D, DIn w0 wr (b + 3) m) ∧ Hid (Fresh w wr)) (fun a25 _ => cs.length - (intOf a25).toNat)
  case atStart => exact ⟨0, none, 0, [], rfl, Nat.zero_le _, ⟨rfl, rfl⟩, HB.out, HA.out, World.ownsRow_nil _ _ _ _, (fun m hm => absurd hm List.not_mem_nil), HF0.out⟩
  case round =>
    obtain ⟨k, o, c, D, rfl, hk, HD, HB1, HB2, HOW, HDI, HF⟩ := hrel
    obtain ⟨wr0, hw0⟩ : ∃ wr0, wr0 = wr := ⟨_, rfl⟩
    subst hw0
    by_cases hlt : k < cs.length
    · obtain ⟨g, o1, ea, hc⟩ := crow_form ((HROW.out.move F0.out).move HF.out) hlt
      obtain ⟨c0, c1, c2, c3, c4, c5, c6⟩ := hc k hlt
      have HM : Hid (cs[k].In w0) := HINS.out _ (List.getElem_mem hlt)
      have HLM := Lib.hid (HLC.out _ (List.getElem_mem hlt))
      have HTK : Hid ((cs.take (k + 1)).map (·.c) = (cs.take k).map (·.c) ++ [cs[k].c]) := by rw [Hid, List.take_succ_eq_append_getElem hlt, List.map_append]; rfl
      have hsz3 : b + 2 < wr0.heap.size := lt_of_at HB2.out
      subst ea
      clear hc
      generalize cs[k] = m at *
      have HLC2 : Hid (m.c.ports.length ≤ 1048576 ∧ m.c.env.length ≤ 1048576) := ⟨HLM.out.lp, HLM.out.le⟩
      have HRC := Lib.hid HM.out.cmd
      have HRP := Lib.hid HM.out.ports
      have HRE := Lib.hid HM.out.env
      obtain ⟨mc, ca, cc, pa, pc, ea, ec⟩ := m
      obtain ⟨s0, s1, lc, lp, n4, n5, le⟩ := mc
      dsimp only at *
      have hA5 := at_alloc (p := .cells #[.string s0, .string s1, .slice ca lc.length cc, .slice none 0 0, .int .i64 n4, .int .i64 n5, .slice none 0 0] 60) (at_new wr0 (.cells #[.string s0, .string s1, .slice ca lc.length cc, .slice pa lp.length pc, .int .i64 n4, .int .i64 n5, .slice ea le.length ec] 53))
      have hA6 := at_new (wr0.alloc (.cells #[.string s0, .string s1, .slice ca lc.length cc, .slice pa lp.length pc, .int .i64 n4, .int .i64 n5, .slice ea le.length ec] 53)) (.cells #[.string s0, .string s1, .slice ca lc.length cc, .slice none 0 0, .int .i64 n4, .int .i64 n5, .slice none 0 0] 60)
      rw [World.size_alloc] at hA6
      have HF1 := Lib.hid (((Fresh.refl wr0).alloc (.cells #[.string s0, .string s1, .slice ca lc.length cc, .slice pa lp.length pc, .int .i64 n4, .int .i64 n5, .slice ea le.length ec] 53)).alloc (.cells #[.string s0, .string s1, .slice ca lc.length cc, .slice none 0 0, .int .i64 n4, .int .i64 n5, .slice none 0 0] 60))
      have HS1 : Hid (((wr0.alloc (.cells #[.string s0, .string s1, .slice ca lc.length cc, .slice pa lp.length pc, .int .i64 n4, .int .i64 n5, .slice ea le.length ec] 53)).alloc (.cells #[.string s0, .string s1, .slice ca lc.length cc, .slice none 0 0, .int .i64 n4, .int .i64 n5, .slice none 0 0] 60)).heap.size = wr0.heap.size + 2) := by simp [Hid]
      have HA5 := Lib.hid hA5
      have HA6 := Lib.hid hA6
      clear hA5 hA6
      go_wp2
      generalize (wr0.alloc (.cells #[.string s0, .string s1, .slice ca lc.length cc, .slice pa lp.length pc, .int .i64 n4, .int .i64 n5, .slice ea le.length ec] 53)).alloc (.cells #[.string s0, .string s1, .slice ca lc.length cc, .slice none 0 0, .int .i64 n4, .int .i64 n5, .slice none 0 0] 60) = W1 at *
      clear c0 c1 c2 c3 c4 c5 c6
      obtain ⟨z, hz⟩ : ∃ z, z = wr0.heap.size := ⟨_, rfl⟩
      have HZW := Lib.hid hz
      rw [← hz] at HA5 HA6 HS1 hsz3 ⊢
      clear hz
      go_loopw [43] (fun a43 wq => ∃ (j : Nat) (po : Option Addr) (pcap : Nat), a43 = .int .i64 (j : Int) ∧ j ≤ lp.length ∧ Hid (wq.heap[z]? = some (.cells #[.string s0, .string s1, .slice ca lc.length cc, .slice pa lp.length pc, .int .i64 n4, .int .i64 n5, .slice ea le.length ec] 53)) ∧ Hid (wq.heap[z + 1]? = some (.cells #[.string s0, .string s1, .slice ca lc.length cc, .slice po j pcap, .int .i64 n4, .int .i64 n5, .slice none 0 0] 60)) ∧
        Hid (wq.ownsRow (z + 2) 62 2 (.slice po j pcap) j (pcells (lp.take j))) ∧ Hid (Fresh wr0 wq)) (fun a43 _ => lp.length - (intOf a43).toNat)
      case atStart => exact ⟨0, none, 0, rfl, Nat.zero_le _, HA5.out, HA6.out, World.ownsRow_nil _ _ _ _, HF1.out⟩
      case round =>
        obtain ⟨j, po, pcap, rfl, hj, HQ5, HQ6, HPR, HFq⟩ := hrel
        obtain ⟨hlp, _⟩ := HLC2.out
        have hzq : z + 1 < wr.heap.size := lt_of_at HQ6.out
        by_cases hlt2 : j < lp.length
        · obtain ⟨g2, o2, e2, hc2⟩ := prow_form (((HRP.out.move F0.out).move HF.out).move HFq.out) hlt2
          obtain ⟨x1, x2⟩ := hc2 j hlt2
          have HTJ : Hid (pcells (lp.take (j + 1)) = pcells (lp.take j) ++ [.int .i64 lp[j].1, .int .i64 lp[j].2]) := by rw [Hid, List.take_succ_eq_append_getElem hlt2, pcells_snoc]; rfl
          clear hc2
          generalize lp[j].1 = un at *
          generalize lp[j].2 = up at *
          obtain ⟨⟨_, _, _, c3, _, _, _⟩, hfz⟩ := Box7.cells (show Box7 60 wr (z + 1) s0 s1 (.slice ca lc.length cc) (.slice po j pcap) n4 n5 (.slice none 0 0) from HQ6.out)
          have f3 := hfz 3
          clear hfz
          subst e2
          have HN2 : Hid (∀ j u, [Value.int .i64 un, .int .i64 up][j]? = some u → ((wr.alloc (.cells #[.int .i64 un, .int .i64 up] 55)).alloc (.cells #[.int .i64 un, .int .i64 up] 62)).cell? ((⟨wr.heap.size + 1, 0, none⟩ : Addr).add j) = some u) := by
            have := news7 (wr.alloc (.cells #[.int .i64 un, .int .i64 up] 55)) 62 [.int .i64 un, .int .i64 up]
            rw [World.size_alloc] at this
            exact this
          have HLT : Hid (∀ g, (Value.slice po j pcap).ownBlock = some g → z + 2 ≤ g) := fun g e => (World.ownsRow.lt HPR.out g e).1
          go_wp2_with (at_builtin; refine Hid.out ?_)
          refine Lib.hid ?_
          refine wpList_append_own _ rfl _ _ 57 rfl (z + 2) 62 ip (.agg #[.int .i64 0, .int .i64 0]) 2 16 Tryd.underlying57 hip hp0 hp1 hp2 rfl (by decide) _ j _ rfl (World.ownsRow.alloc (World.ownsRow.alloc HPR.out _) _) ⟨wr.heap.size + 1, 0, none⟩ 1 1 [.int .i64 un, .int .i64 up] rfl rfl HN2.out (by simp [Value.oneCell']) (by unfold maxLen; omega) (by omega) (by rw [World.size_alloc, World.size_alloc]; omega) ?_
          intro v' w3 hown' hgrow _
          obtain ⟨g', cap', rfl⟩ := ownsRow_succ hown'
          have HOWN := Lib.hid hown'
          have HGROW := Lib.hid hgrow
          have hb6 : w3.heap[z + 1]? = some (.cells #[.string s0, .string s1, .slice ca lc.length cc, .slice po j pcap, .int .i64 n4, .int .i64 n5, .slice none 0 0] 60) := (hgrow.block (z + 1) (by rw [World.size_alloc, World.size_alloc]; omega) (fun e => by have := HLT.out (z + 1) e.symm; omega)).trans (at_alloc (at_alloc HQ6.out))
          have hb5 : w3.heap[z]? = some (.cells #[.string s0, .string s1, .slice ca lc.length cc, .slice (some ⟨g2, o2, none⟩) lp.length pc, .int .i64 n4, .int .i64 n5, .slice ea le.length ec] 53) := (hgrow.block z (by rw [World.size_alloc, World.size_alloc]; omega) (fun e => by have := HLT.out z e.symm; omega)).trans (at_alloc (at_alloc HQ5.out))
          have HB6 := Lib.hid hb6
          have HB5 := Lib.hid hb5
          have k3 := cell_of_at hb6 (i := 3) rfl
          have kf3 : w3.frozen? ⟨z + 1, 3, none⟩ = false := by simp [World.frozen?, hb6]
          clear hown' hgrow hb5 hb6
          go_wp2
          all_goals try (exfalso; omega)
          go_roundw
          case rel =>
            refine ⟨j + 1, some ⟨g', 0, none⟩, cap', by simp, by omega, at_off HB5.out (Nat.ne_of_lt (Nat.lt_succ_self z)) _, at_set HB6.out 3 _, ?_, ?_⟩
            · have := own_set (p := ⟨z + 1, 3, none⟩) HOWN.out (by show z + 1 < z + 2; omega) (.slice (some ⟨g', 0, none⟩) (j + 1) cap')
              rw [HTJ.out]
              exact this
            · exact ((((HFq.out.alloc _).alloc _).grown HGROW.out (fun g e => by have := HLT.out g e; have := HZW.out; omega)).setCell (p := ⟨z + 1, 3, none⟩) (by have := HZW.out; show _ ≤ z + 1; omega) _)
          case measure => simp [intOf]; omega
        · obtain rfl : j = lp.length := by omega
          have HPP : Hid (wr.ownsRow (z + 2) 62 2 (.slice po lp.length pcap) lp.length (pcells lp)) := by
            have := HPR.out
            rw [List.take_length] at this
            exact this
          clear HPR
          obtain ⟨⟨_, _, _, _, _, _, c6⟩, _⟩ := Box7.cells (show Box7 53 wr z s0 s1 (.slice ca lc.length cc) (.slice pa lp.length pc) n4 n5 (.slice ea le.length ec) from HQ5.out)
          go_wp2
          all_goals try (exfalso; omega)
          clear c6
          generalize po = po2 at *
          generalize pcap = pcap2 at *
          go_loopw [61] (fun a61 wq => ∃ (j : Nat) (po : Option Addr) (pcap : Nat), a61 = .int .i64 (j : Int) ∧ j ≤ le.length ∧ Hid (wq.heap[z]? = some (.cells #[.string s0, .string s1, .slice ca lc.length cc, .slice pa lp.length pc, .int .i64 n4, .int .i64 n5, .slice ea le.length ec] 53)) ∧ Hid (wq.heap[z + 1]? = some (.cells #[.string s0, .string s1, .slice ca lc.length cc, .slice po2 lp.length pcap2, .int .i64 n4, .int .i64 n5, .slice po j pcap] 60)) ∧
            Hid (wq.ownsRow (z + 2) 65 2 (.slice po j pcap) j (ecells (le.take j))) ∧ Hid (wq.ownsRow (z + 2) 62 2 (.slice po2 lp.length pcap2) lp.length (pcells lp)) ∧ Hid (Fresh wr0 wq)) (fun a61 _ => le.length - (intOf a61).toNat)
          case atStart => exact ⟨0, none, 0, rfl, Nat.zero_le _, HQ5.out, HQ6.out, World.ownsRow_nil _ _ _ _, HPP.out, HFq.out⟩
          case round =>
            obtain ⟨j, po, pcap, rfl, hj, HQ5, HQ6, HPR, HPP, HFq⟩ := hrel
            obtain ⟨_, hlp⟩ := HLC2.out
            have hzq : z + 1 < wr.heap.size := lt_of_at HQ6.out
            by_cases hlt2 : j < le.length
            · obtain ⟨g2, o2, e2, hc2⟩ := erow_form (((HRE.out.move F0.out).move HF.out).move HFq.out) hlt2
              obtain ⟨x1, x2⟩ := hc2 j hlt2
              have HTJ : Hid (ecells (le.take (j + 1)) = ecells (le.take j) ++ [.string le[j].1, .string le[j].2]) := by rw [Hid, List.take_succ_eq_append_getElem hlt2, ecells_snoc]; rfl
              clear hc2
              generalize le[j].1 = un at *
              generalize le[j].2 = up at *
              obtain ⟨⟨_, _, _, _, _, _, c3⟩, hfz⟩ := Box7.cells (show Box7 60 wr (z + 1) s0 s1 (.slice ca lc.length cc) (.slice po2 lp.length pcap2) n4 n5 (.slice po j pcap) from HQ6.out)
              have f3 := hfz 6
              clear hfz
              subst e2
              have HN2 : Hid (∀ j u, [Value.string un, .string up][j]? = some u → ((wr.alloc (.cells #[.string un, .string up] 64)).alloc (.cells #[.string un, .string up] 65)).cell? ((⟨wr.heap.size + 1, 0, none⟩ : Addr).add j) = some u) := by
                have := news7 (wr.alloc (.cells #[.string un, .string up] 64)) 65 [.string un, .string up]
                rw [World.size_alloc] at this
                exact this
              have HLT : Hid (∀ g, (Value.slice po j pcap).ownBlock = some g → z + 2 ≤ g) := fun g e => (World.ownsRow.lt HPR.out g e).1
              go_wp2_with (at_builtin; refine Hid.out ?_)
              refine Lib.hid ?_
              refine wpList_append_own _ rfl _ _ 58 rfl (z + 2) 65 ie (.agg #[.string ⟨#[]⟩, .string ⟨#[]⟩]) 2 32 Tryd.underlying58 hie he0 he1 he2 rfl (by decide) _ j _ rfl (World.ownsRow.alloc (World.ownsRow.alloc HPR.out _) _) ⟨wr.heap.size + 1, 0, none⟩ 1 1 [.string un, .string up] rfl rfl HN2.out (by simp [Value.oneCell']) (by unfold maxLen; omega) (by omega) (by rw [World.size_alloc, World.size_alloc]; omega) ?_
              intro v' w3 hown' hgrow _
              obtain ⟨g', cap', rfl⟩ := ownsRow_succ hown'
              have HOWN := Lib.hid hown'
              have HGROW := Lib.hid hgrow
              have hb6 : w3.heap[z + 1]? = some (.cells #[.string s0, .string s1, .slice ca lc.length cc, .slice po2 lp.length pcap2, .int .i64 n4, .int .i64 n5, .slice po j pcap] 60) := (hgrow.block (z + 1) (by rw [World.size_alloc, World.size_alloc]; omega) (fun e => by have := HLT.out (z + 1) e.symm; omega)).trans (at_alloc (at_alloc HQ6.out))
              have hb5 : w3.heap[z]? = some (.cells #[.string s0, .string s1, .slice ca lc.length cc, .slice pa lp.length pc, .int .i64 n4, .int .i64 n5, .slice (some ⟨g2, o2, none⟩) le.length ec] 53) := (hgrow.block z (by rw [World.size_alloc, World.size_alloc]; omega) (fun e => by have := HLT.out z e.symm; omega)).trans (at_alloc (at_alloc HQ5.out))
              have HB6 := Lib.hid hb6
              have HB5 := Lib.hid hb5
              have k3 := cell_of_at hb6 (i := 6) rfl
              have kf3 : w3.frozen? ⟨z + 1, 6, none⟩ = false := by simp [World.frozen?, hb6]
              clear hown' hgrow hb5 hb6
              go_wp2
              all_goals try (exfalso; omega)
              go_roundw
              case rel =>
                refine ⟨j + 1, some ⟨g', 0, none⟩, cap', by simp, by omega, at_off HB5.out (Nat.ne_of_lt (Nat.lt_succ_self z)) _, at_set HB6.out 6 _, ?_, ?_, ?_⟩
                · have := own_set (p := ⟨z + 1, 6, none⟩) HOWN.out (by show z + 1 < z + 2; omega) (.slice (some ⟨g', 0, none⟩) (j + 1) cap')
                  rw [HTJ.out]
                  exact this
                · have h1 := own_fresh HPP.out (((Fresh.refl wr).alloc (.cells #[.string un, .string up] 64)).alloc (.cells #[.string un, .string up] 65))
                  have h2 := World.ownsRow.kept h1 HGROW.out (own_ne h1 (World.ownsRow.alloc (World.ownsRow.alloc HPR.out (.cells #[.string un, .string up] 64)) (.cells #[.string un, .string up] 65)) (by decide))
                  exact own_set (p := ⟨z + 1, 6, none⟩) h2 (by show z + 1 < z + 2; omega) _
                · exact ((((HFq.out.alloc _).alloc _).grown HGROW.out (fun g e => by have := HLT.out g e; have := HZW.out; omega)).setCell (p := ⟨z + 1, 6, none⟩) (by have := HZW.out; show _ ≤ z + 1; omega) _)
              case measure => simp [intOf]; omega
            · obtain rfl : j = le.length := by omega
              have HEE : Hid (wr.ownsRow (z + 2) 65 2 (.slice po le.length pcap) le.length (ecells le)) := by
                have := HPR.out
                rw [List.take_length] at this
                exact this
              clear HPR
              have hb2 := HFq.out.at HB2.out
              have hb1 := HFq.out.at HB1.out
              obtain ⟨⟨_, _, _, _, _, q5⟩, hfz⟩ := box6p hb2
              have fz := hfz 5
              clear hfz
              obtain ⟨⟨c0, c1, c2, c3, c4, c5, c6⟩, _⟩ := Box7.cells (show Box7 60 wr (z + 1) s0 s1 (.slice ca lc.length cc) (.slice po2 lp.length pcap2) n4 n5 (.slice po le.length pcap) from HQ6.out)
              have HOW2 := Lib.hid (own_fresh HOW.out HFq.out)
              have HLT : Hid (∀ g, (Value.slice o k c).ownBlock = some g → b + 3 ≤ g) := fun g e => (World.ownsRow.lt HOW2.out g e).1
              have HN7 := Lib.hid (news7 wr 60 [.string s0, .string s1, .slice ca lc.length cc, .slice po2 lp.length pcap2, .int .i64 n4, .int .i64 n5, .slice po le.length pcap])
              have hzz : z + 1 < wr.heap.size := lt_of_at HQ6.out
              have HB1q := Lib.hid hb1
              have HB2q := Lib.hid hb2
              clear hb1 hb2
              go_wp2_with (at_builtin; refine Hid.out ?_)
              refine Lib.hid ?_
              refine wpList_append_own _ rfl _ _ 28 rfl (b + 3) 60 i0 (.agg #[.string ⟨#[]⟩, .string ⟨#[]⟩, .slice none 0 0, .slice none 0 0, .int .i64 0, .int .i64 0, .slice none 0 0]) 7 120 Tryd.underlying28 hi hz0 hz1 hz2 rfl (by decide) _ k _ rfl (World.ownsRow.alloc HOW2.out _) ⟨wr.heap.size, 0, none⟩ 1 1 [.string s0, .string s1, .slice ca lc.length cc, .slice po2 lp.length pcap2, .int .i64 n4, .int .i64 n5, .slice po le.length pcap] rfl rfl HN7.out (by simp [Value.oneCell']) (by unfold maxLen; omega) (by omega) (by rw [World.size_alloc]; omega) ?_
              intro v' w3 hown' hgrow _
              obtain ⟨g', cap', rfl⟩ := ownsRow_succ hown'
              have hb2 := (hgrow.block (b + 2) (by rw [World.size_alloc]; omega) (fun e => by have := HLT.out (b + 2) e.symm; omega)).trans (at_alloc HB2q.out)
              have hb1 := (hgrow.block (b + 1) (by rw [World.size_alloc]; omega) (fun e => by have := HLT.out (b + 1) e.symm; omega)).trans (at_alloc HB1q.out)
              have k5 := (box6p hb2).1.2.2.2.2.2
              have kf := (box6p hb2).2 5
              have HOWN := Lib.hid hown'
              have HGROW := Lib.hid hgrow
              have HB1r := Lib.hid hb1
              have HB2r := Lib.hid hb2
              clear hown' hgrow hb1 hb2 c0 c1 c2 c3 c4 c5 c6 q5 fz
              go_wp2
              all_goals try (exfalso; omega)
              have HAL := Lib.hid (World.ownsRow.alloc HOW2.out (.cells #[.string s0, .string s1, .slice ca lc.length cc, .slice po2 lp.length pcap2, .int .i64 n4, .int .i64 n5, .slice po le.length pcap] 60))
              have HNEW : Hid (DIn w0 (w3.setCell ⟨b + 2, 5, none⟩ (.slice (some ⟨g', 0, none⟩) (k + 1) cap')) (b + 3) ⟨⟨s0, s1, lc, lp, n4, n5, le⟩, ca, cc, po2, pcap2, po, pcap⟩) :=
                (((DIn.fresh (w := w0) (W := wr) (B := b + 3) (m := ⟨⟨s0, s1, lc, lp, n4, n5, le⟩, ca, cc, po2, pcap2, po, pcap⟩) ⟨HRC.out, World.ownsRow.mono HPP.out (by omega), World.ownsRow.mono HEE.out (by omega)⟩ ((Fresh.refl wr).alloc _)).grow HAL.out HGROW.out).set (p := ⟨b + 2, 5, none⟩) (by show b + 2 < b + 3; omega) _)
              go_roundw
              case rel =>
                refine ⟨k + 1, some ⟨g', 0, none⟩, cap', D ++ [⟨⟨s0, s1, lc, lp, n4, n5, le⟩, ca, cc, po2, pcap2, po, pcap⟩], by simp, by omega, ⟨?_, ?_⟩, at_off HB1r.out (by omega) _, at_set HB2r.out 5 _, ?_, ?_, ?_⟩
                · rw [List.length_append, HD.out.1]; rfl
                · rw [List.map_append, HD.out.2, HTK.out]; rfl
                · have := own_set (p := ⟨b + 2, 5, none⟩) HOWN.out (by show b + 2 < b + 3; omega) (.slice (some ⟨g', 0, none⟩) (k + 1) cap')
                  rw [show ccells (D ++ [(⟨⟨s0, s1, lc, lp, n4, n5, le⟩, ca, cc, po2, pcap2, po, pcap⟩ : CM)]) = ccells D ++ [.string s0, .string s1, .slice ca lc.length cc, .slice po2 lp.length pcap2, .int .i64 n4, .int .i64 n5, .slice po le.length pcap] by simp [ccells, CM.cells]]
                  exact this
                · intro m hm
                  rcases List.mem_append.1 hm with h | h
                  · exact ((((HDI.out m h).fresh HFq.out).fresh ((Fresh.refl wr).alloc _)).grow HAL.out HGROW.out).set (p := ⟨b + 2, 5, none⟩) (by show b + 2 < b + 3; omega) _
                  · rw [List.mem_singleton.1 h]; exact HNEW.out
                · exact (((HF.out.trans HFq.out).alloc _).grown HGROW.out (fun g e => by have := HLT.out g e; have := HBW.out; omega)).setCell (p := ⟨b + 2, 5, none⟩) (by have := HBW.out; show _ ≤ b + 2; omega) _
              case measure => simp [intOf]; omega
    · obtain rfl : k = cs.length := by omega
      obtain ⟨⟨p0, p1, p2, p3, p4, p5⟩, _⟩ := box6p HB2.out
      obtain ⟨⟨q0, q1, q2, q3, q4, q5⟩, hfz⟩ := box6p HB1.out
      have f0 := hfz 0
      have f1 := hfz 1
      have f2 := hfz 2
      have f3 := hfz 3
      have f4 := hfz 4
      have f5 := hfz 5
      clear hfz
      have HBL : Hid (∀ ad : Addr, o = some ad → b + 3 ≤ ad.block) := fun ad e => (World.ownsRow.lt HOW.out ad.block (by rw [e]; rfl)).1
      go_wp2
      all_goals try (exfalso; omega)
      have l1 : ∀ i, (⟨b + 1, i, none⟩ : Addr).block < b + 3 := fun i => by show b + 1 < b + 3; omega
      refine bodyPost_ret (v := .agg #[.string name, .string ns, .int .i64 rs, .int .i64 gr, .bool ho, .slice o cs.length c]) (by simp [results, Tryd.f8, go_sem, *]) rfl ⟨⟨name, ns, rs, gr, ho, o, c, D⟩, ?_, ?_, ⟨?_, ?_⟩, ?_⟩
      · rw [HD.out.1]
      · refine ⟨rfl, rfl, rfl, rfl, rfl, ?_⟩
        show D.map (·.c) = _
        rw [HD.out.2, List.take_length]
      · show World.ownsRow _ _ _ _ (.slice o D.length c) D.length (ccells D)
        rw [HD.out.1]
        refine World.ownsRow.mono (base := b + 3) ?_ (by have := HBW.out; omega)
        exact own_set (p := ⟨b + 1, 5, none⟩) (own_set (p := ⟨b + 1, 4, none⟩) (own_set (p := ⟨b + 1, 3, none⟩) (own_set (p := ⟨b + 1, 2, none⟩) (own_set (p := ⟨b + 1, 1, none⟩) (own_set (p := ⟨b + 1, 0, none⟩) HOW.out (l1 0) _) (l1 1) _) (l1 2) _) (l1 3) _) (l1 4) _) (l1 5) _
      · intro m hm
        refine DIn.mono (B := b + 3) ?_ (by have := HBW.out; omega)
        exact DIn.set (p := ⟨b + 1, 5, none⟩) (DIn.set (p := ⟨b + 1, 4, none⟩) (DIn.set (p := ⟨b + 1, 3, none⟩) (DIn.set (p := ⟨b + 1, 2, none⟩) (DIn.set (p := ⟨b + 1, 1, none⟩) (DIn.set (p := ⟨b + 1, 0, none⟩) (HDI.out m hm) (l1 0) _) (l1 1) _) (l1 2) _) (l1 3) _) (l1 4) _) (l1 5) _
      · repeat (refine Fresh.setCell ?_ (by have := HBW.out; simp; omega) _)
        exact HF.out
theorem of_any (p : PM) (w : World) (h : p.At w) (hl : p.Low) : Calls Tryd.prog 8 #[p.val] w fun e w' => ∃ q : PM, e = .returned q.val ∧ q.pd = p.pd ∧ q.At w' ∧ Fresh w w' :=
  (of_own p w w h (Fresh.refl w) hl).mono (fun e w' ⟨q, h1, h2, h3, h4⟩ => ⟨q, h1, h2, h3.at h4, h4⟩)
end Go.Proofs.YtfhhmajkacjbgaaDoor
namespace Go.Proofs.YtfhhmajkacjbgaaDoor

theorem low_pd {p q : PM} (h : q.pd = p.pd) (l : p.Low) : q.Low := by
  obtain ⟨name, ns, rs, gr, ho, a, cap, cs⟩ := p
  obtain ⟨name', ns', rs', gr', ho', a', cap', cs'⟩ := q
  unfold PM.pd at h
  simp only [Pd.mk.injEq] at h
  obtain ⟨rfl, rfl, rfl, rfl, rfl, h6⟩ := h
  refine ⟨l.name, l.ns, l.ir, l.ig, ?_, fun m hm => ?_⟩
  · have := congrArg List.length h6
    simp only [List.length_map] at this
    have h2 := l.len
    show cs'.length ≤ _
    rw [this]; exact h2
  · have h1 : m.c ∈ cs'.map (·.c) := List.mem_map.2 ⟨m, hm, rfl⟩
    rw [h6] at h1
    obtain ⟨m2, h3, h4⟩ := List.mem_map.1 h1
    rw [← h4]; exact l.cs m2 h3
theorem low_defC {c : Ct} (l : c.Low) : (defC c).Low := by
  refine { name := l.name, image := l.image, lc := l.lc, lp := l.lp, le := l.le, cmd := l.cmd, env := l.env, icpu := ?_, imem := ?_, ip := l.ip }
  · show (Lit.int .i64 (if c.cpu = 0 then 100 else c.cpu)).wf = true
    split
    · decide
    · exact l.icpu
  · show (Lit.int .i64 (if c.mem = 0 then 64 else c.mem)).wf = true
    split
    · decide
    · exact l.imem
theorem low_def {p q : PM} (h : q.pd = defP p.pd) (l : p.Low) : q.Low := by
  have hd : (p.dft p.a p.cap).Low := by
    refine ⟨l.name, ?_, l.ir, ?_, ?_, fun m hm => ?_⟩
    · show (if p.ns.size = 0 then nsDef else p.ns).size ≤ _
      split
      · decide
      · exact l.ns
    · show (Lit.int .i64 (if p.grace = 0 then 30 else p.grace)).wf = true
      split
      · decide
      · exact l.ig
    · show (p.cs.map CM.dft).length ≤ _
      rw [List.length_map]; exact l.len
    · obtain ⟨m0, h0, rfl⟩ := List.mem_map.1 hm
      exact low_defC (l.cs m0 h0)
  exact low_pd (by rw [dft_pd]; exact h) hd
end Go.Proofs.YtfhhmajkacjbgaaDoor
namespace Go.Proofs.YtfhhmajkacjbgaaDoor
open Go.ChangeShapes Go.WideShapes Go.ChangeAt Go.RowKit

theorem set_get {arr : Array Value} {j k : Nat} {u v : Value} (h : arr[k]? = some v) (hne : j ≠ k) : (arr.setIfInBounds j u)[k]? = some v := by
  rw [Array.getElem?_setIfInBounds, if_neg hne]; exact h
theorem set_str {arr : Array Value} {j k K K' : Nat} {t : ByteArray} (h : ∃ s, arr[k]? = some (.string s) ∧ s.size ≤ K) (hK : K ≤ K') (ht : t.size ≤ K') : ∃ s, (arr.setIfInBounds j (.string t))[k]? = some (.string s) ∧ s.size ≤ K' := by
  obtain ⟨s, h1, h2⟩ := h
  by_cases e : j = k
  · subst e
    refine ⟨t, ?_, ht⟩
    rw [Array.getElem?_setIfInBounds, if_pos rfl, if_pos (Array.getElem?_eq_some_iff.1 h1).1]
  · exact ⟨s, set_get h1 e, Nat.le_trans h2 hK⟩
theorem set_num {arr : Array Value} {j k : Nat} {t : Int} (h : ∃ s, arr[k]? = some (.int .i64 s)) : ∃ s, (arr.setIfInBounds j (.int .i64 t))[k]? = some (.int .i64 s) := by
  obtain ⟨s, h1⟩ := h
  by_cases e : j = k
  · subst e
    refine ⟨t, ?_⟩
    rw [Array.getElem?_setIfInBounds, if_pos rfl, if_pos (Array.getElem?_eq_some_iff.1 h1).1]
  · exact ⟨s, set_get h1 e⟩
/-- A row of texts, of at most K bytes each. -/
def TRow (W : World) (B K : Nat) (a : Option Addr) (n : Nat) : Prop := n = 0 ∨ ∃ g arr, a = some ⟨g, 0, none⟩ ∧ B ≤ g ∧ W.heap[g]? = some (Obj.cells arr 9 (0, 0)) ∧ ∀ k, k < n → ∃ s, arr[k]? = some (.string s) ∧ s.size ≤ K
/-- A row of ports. -/
def PRow (W : World) (B : Nat) (a : Option Addr) (n : Nat) : Prop := n = 0 ∨ ∃ g arr, a = some ⟨g, 0, none⟩ ∧ B ≤ g ∧ W.heap[g]? = some (Obj.cells arr 55 (0, 0)) ∧ ∀ k, k < n → ∃ z, arr[k * 2]? = some (.int .i64 z)
/-- The row of containers. -/
def CRow (W : World) (B K : Nat) (a : Option Addr) (cs : List CM) : Prop := cs = [] ∨ ∃ g arr, a = some ⟨g, 0, none⟩ ∧ B ≤ g ∧ W.heap[g]? = some (Obj.cells arr 53 (0, 0)) ∧ ∀ k (h : k < cs.length), (∃ s, arr[k * 7]? = some (.string s) ∧ s.size ≤ K) ∧ arr[k * 7 + 2]? = some (.slice cs[k].ca cs[k].c.cmd.length cs[k].cc) ∧ arr[k * 7 + 3]? = some (.slice cs[k].pa cs[k].c.ports.length cs[k].pc)
structure Mut (q : PM) (W : World) (B K : Nat) : Prop where
  crow : CRow W B K q.a q.cs
  trow : ∀ m ∈ q.cs, TRow W B K m.ca m.c.cmd.length
  prow : ∀ m ∈ q.cs, PRow W B m.pa m.c.ports.length
theorem own_block {W : World} {B e k n c : Nat} {o : Option Addr} {xs : List Value} (h : W.ownsRow B e k (.slice o n c) n xs) : n = 0 ∨ ∃ g arr, o = some ⟨g, 0, none⟩ ∧ B ≤ g ∧ W.heap[g]? = some (Obj.cells arr e (0, 0)) ∧ ∀ j v, j < n * k → xs[j]? = some v → arr[j]? = some v := by
  rcases h.2 with ⟨e1, hn⟩ | ⟨g, cap, cur, e1, hb, hg, hn, _, hs, ht⟩
  · exact .inl hn
  · cases e1
    refine .inr ⟨g, cur, rfl, hb, hg, fun j v hj hx => ?_⟩
    rw [← ht, List.getElem?_take, if_pos hj] at hx
    simpa using hx
theorem Mut.of {q : PM} {W : World} {B K : Nat} (h : QAt W B q) (hs : ∀ m ∈ q.cs, m.c.Sml) (hK : 20000 ≤ K) : Mut q W B K where
  crow := by
    rcases own_block h.row with h0 | ⟨g, arr, e, hb, hg, hx⟩
    · exact .inl (List.eq_nil_of_length_eq_zero h0)
    · refine .inr ⟨g, arr, e, hb, hg, fun k hk => ?_⟩
      have c : ∀ i v, i < 7 → q.cs[k].cells[i]? = some v → arr[k * 7 + i]? = some v := fun i v hi hv => by
        refine hx _ _ (by omega) ?_
        rw [show (ccells q.cs)[k * 7 + i]? = q.cs[k].cells[i]? from flat_get CM.cells 7 (fun _ => rfl) q.cs k hk i hi]
        exact hv
      exact ⟨⟨_, c 0 _ (by omega) rfl, Nat.le_trans (hs _ (List.getElem_mem hk)).name hK⟩, c 2 _ (by omega) rfl, c 3 _ (by omega) rfl⟩
  trow := fun m hm => by
    rcases own_block (h.ins m hm).cmd with h0 | ⟨g, arr, e, hb, hg, hx⟩
    · exact .inl h0
    · refine .inr ⟨g, arr, e, hb, hg, fun k hk => ⟨m.c.cmd[k], hx _ _ (by omega) ?_, Nat.le_trans ((hs m hm).cmd _ (List.getElem_mem hk)) hK⟩⟩
      have := flat_get tcell 1 (fun _ => rfl) m.c.cmd k hk 0 (by omega)
      rw [Nat.mul_one, Nat.add_zero] at this
      exact this
  prow := fun m hm => by
    rcases own_block (h.ins m hm).ports with h0 | ⟨g, arr, e, hb, hg, hx⟩
    · exact .inl h0
    · exact .inr ⟨g, arr, e, hb, hg, fun k hk => ⟨m.c.ports[k].1, hx _ _ (by omega) (flat_get pcell 2 (fun _ => rfl) m.c.ports k hk 0 (by omega))⟩⟩
section
variable {q : PM} {W W' : World} {B K K' : Nat}
theorem CRow.move {a : Option Addr} {cs : List CM} (h : CRow W B K a cs) (hK : K ≤ K') (hm : ∀ (g : Nat) (arr : Array Value), W.heap[g]? = some (Obj.cells arr 53 (0, 0)) → W'.heap[g]? = some (Obj.cells arr 53 (0, 0))) : CRow W' B K' a cs := by
  rcases h with h | ⟨g, arr, e, hb, hg, hx⟩
  · exact .inl h
  · exact .inr ⟨g, arr, e, hb, hm g arr hg, fun k hk => ⟨(hx k hk).1.imp fun s h => ⟨h.1, Nat.le_trans h.2 hK⟩, (hx k hk).2⟩⟩
theorem TRow.move {a : Option Addr} {n : Nat} (h : TRow W B K a n) (hK : K ≤ K') (hm : ∀ (g : Nat) (arr : Array Value), W.heap[g]? = some (Obj.cells arr 9 (0, 0)) → W'.heap[g]? = some (Obj.cells arr 9 (0, 0))) : TRow W' B K' a n := by
  rcases h with h | ⟨g, arr, e, hb, hg, hx⟩
  · exact .inl h
  · exact .inr ⟨g, arr, e, hb, hm g arr hg, fun k hk => (hx k hk).imp fun s h => ⟨h.1, Nat.le_trans h.2 hK⟩⟩
theorem PRow.move {a : Option Addr} {n : Nat} (h : PRow W B a n) (hm : ∀ (g : Nat) (arr : Array Value), W.heap[g]? = some (Obj.cells arr 55 (0, 0)) → W'.heap[g]? = some (Obj.cells arr 55 (0, 0))) : PRow W' B a n := by
  rcases h with h | ⟨g, arr, e, hb, hg, hx⟩
  · exact .inl h
  · exact .inr ⟨g, arr, e, hb, hm g arr hg, hx⟩
theorem Mut.go (h : Mut q W B K) (f : Fresh W W') : Mut q W' B K :=
  ⟨h.crow.move (Nat.le_refl _) fun g arr hg => f.at hg, fun m hm => (h.trow m hm).move (Nat.le_refl _) fun g arr hg => f.at hg, fun m hm => (h.prow m hm).move fun g arr hg => f.at hg⟩
theorem Mut.le (h : Mut q W B K) (hK : K ≤ K') : Mut q W B K' :=
  ⟨h.crow.move hK fun g arr hg => hg, fun m hm => (h.trow m hm).move hK fun g arr hg => hg, fun m hm => (h.prow m hm).move fun g arr hg => hg⟩
/-- A store into a block of one type leaves blocks of another one alone. -/
theorem other_type {z t t2 i : Nat} {ar : Array Value} (hz : W.heap[z]? = some (.cells ar t (0, 0))) (hne : t ≠ t2) (u : Value) : ∀ (g : Nat) (arr : Array Value), W.heap[g]? = some (Obj.cells arr t2 (0, 0)) → (W.setCell ⟨z, i, none⟩ u).heap[g]? = some (Obj.cells arr t2 (0, 0)) := fun g arr hg => by
  have : g ≠ z := fun e => by
    subst e
    rw [hg] at hz
    cases hz
    exact hne rfl
  rw [(grown_set W z i u).block g (lt_of_at hg) (fun e => this (Option.some.inj e))]; exact hg
theorem other_block {z t i : Nat} {o : Obj} {ar : Array Value} (hz : W.heap[z]? = some (.cells ar t (0, 0))) {g : Nat} (hg : W.heap[g]? = some o) (ho : ∀ arr, o ≠ Obj.cells arr t (0, 0)) (u : Value) : (W.setCell ⟨z, i, none⟩ u).heap[g]? = some o := by
  have : g ≠ z := fun e => by
    subst e
    rw [hg] at hz
    cases hz
    exact ho _ rfl
  rw [(grown_set W z i u).block g (lt_of_at hg) (fun e => this (Option.some.inj e))]; exact hg
theorem same_block {z t i : Nat} {ar : Array Value} (hz : W.heap[z]? = some (.cells ar t (0, 0))) (u : Value) : (W.setCell ⟨z, i, none⟩ u).heap[z]? = some (.cells (ar.setIfInBounds i u) t (0, 0)) := at_set hz i u
theorem Mut.setC (h : Mut q W B K) {z k : Nat} {ar : Array Value} (hz : W.heap[z]? = some (.cells ar 53 (0, 0))) (hK : K ≤ K') {t : ByteArray} (ht : t.size ≤ K') : Mut q (W.setCell ⟨z, k * 7, none⟩ (.string t)) B K' where
  crow := by
    rcases h.crow with h0 | ⟨g, arr, e, hb, hg, hx⟩
    · exact .inl h0
    · by_cases hgz : g = z
      · subst hgz
        refine .inr ⟨g, _, e, hb, same_block hg _, fun j hj => ⟨set_str (hx j hj).1 hK ht, set_get (hx j hj).2.1 (by omega), set_get (hx j hj).2.2 (by omega)⟩⟩
      · refine .inr ⟨g, arr, e, hb, ?_, fun j hj => ⟨(hx j hj).1.imp fun s h => ⟨h.1, Nat.le_trans h.2 hK⟩, (hx j hj).2⟩⟩
        rw [(grown_set W z (k * 7) _).block g (lt_of_at hg) (fun e => hgz (Option.some.inj e))]; exact hg
  trow := fun m hm => (h.trow m hm).move hK (other_type hz (by decide) _)
  prow := fun m hm => (h.prow m hm).move (other_type hz (by decide) _)
theorem Mut.setT (h : Mut q W B K) {z k : Nat} {ar : Array Value} (hz : W.heap[z]? = some (.cells ar 9 (0, 0))) (hK : K ≤ K') {t : ByteArray} (ht : t.size ≤ K') : Mut q (W.setCell ⟨z, k, none⟩ (.string t)) B K' where
  crow := h.crow.move hK (other_type hz (by decide) _)
  trow := fun m hm => by
    rcases h.trow m hm with h0 | ⟨g, arr, e, hb, hg, hx⟩
    · exact .inl h0
    · by_cases hgz : g = z
      · subst hgz
        exact .inr ⟨g, _, e, hb, same_block hg _, fun j hj => set_str (hx j hj) hK ht⟩
      · refine .inr ⟨g, arr, e, hb, ?_, fun j hj => (hx j hj).imp fun s h => ⟨h.1, Nat.le_trans h.2 hK⟩⟩
        rw [(grown_set W z k _).block g (lt_of_at hg) (fun e => hgz (Option.some.inj e))]; exact hg
  prow := fun m hm => (h.prow m hm).move (other_type hz (by decide) _)
theorem Mut.setP (h : Mut q W B K) {z k : Nat} {ar : Array Value} (hz : W.heap[z]? = some (.cells ar 55 (0, 0))) (t : Int) : Mut q (W.setCell ⟨z, k, none⟩ (.int .i64 t)) B K where
  crow := h.crow.move (Nat.le_refl _) (other_type hz (by decide) _)
  trow := fun m hm => (h.trow m hm).move (Nat.le_refl _) (other_type hz (by decide) _)
  prow := fun m hm => by
    rcases h.prow m hm with h0 | ⟨g, arr, e, hb, hg, hx⟩
    · exact .inl h0
    · by_cases hgz : g = z
      · subst hgz
        exact .inr ⟨g, _, e, hb, same_block hg _, fun j hj => set_num (hx j hj)⟩
      · refine .inr ⟨g, arr, e, hb, ?_, hx⟩
        rw [(grown_set W z k _).block g (lt_of_at hg) (fun e => hgz (Option.some.inj e))]; exact hg
end
def podObj (p : PM) (t : Nat) : Obj := .cells #[.string p.name, .string p.ns, .int .i64 p.restart, .int .i64 p.grace, .bool p.host, .slice p.a p.cs.length p.cap] t
/-- What stands while the defaults are written over. -/
structure DSt (w W : World) (b z3 z5 B Bk K : Nat) (p q kp : PM) : Prop where
  mt : Mut q W B K
  at1 : W.heap[b]? = some (podObj p 25)
  at3 : W.heap[z3]? = some (podObj q 25)
  at5 : W.heap[z5]? = some (podObj kp 30)
  kept : OAt w W Bk kp
  fr : Fresh w W
  low : w.heap.size ≤ B
section
variable {w W : World} {b z3 z5 B Bk K K' : Nat} {p q kp : PM}
theorem DSt.le (h : DSt w W b z3 z5 B Bk K p q kp) (hK : K ≤ K') : DSt w W b z3 z5 B Bk K' p q kp := { h with mt := h.mt.le hK }
theorem podObj_ne {t t2 : Nat} (h : t ≠ t2) (p : PM) : ∀ arr, podObj p t ≠ Obj.cells arr t2 (0, 0) := fun arr e => by
  unfold podObj at e
  cases e
  exact h rfl
theorem DSt.setC (h : DSt w W b z3 z5 B Bk K p q kp) {z k : Nat} {ar : Array Value} (hb : B ≤ z) (hz : W.heap[z]? = some (.cells ar 53 (0, 0))) (hK : K ≤ K') {t : ByteArray} (ht : t.size ≤ K') : DSt w (W.setCell ⟨z, k * 7, none⟩ (.string t)) b z3 z5 B Bk K' p q kp where
  mt := h.mt.setC hz hK ht
  at1 := other_block hz h.at1 (podObj_ne (by decide) _) _
  at3 := other_block hz h.at3 (podObj_ne (by decide) _) _
  at5 := other_block hz h.at5 (podObj_ne (by decide) _) _
  kept := h.kept.setType hz (by decide) (by decide) (by decide) _ _
  fr := h.fr.setCell (p := ⟨z, k * 7, none⟩) (Nat.le_trans h.low hb) _
  low := h.low
theorem DSt.setT (h : DSt w W b z3 z5 B Bk K p q kp) {z k : Nat} {ar : Array Value} (hb : B ≤ z) (hz : W.heap[z]? = some (.cells ar 9 (0, 0))) (hK : K ≤ K') {t : ByteArray} (ht : t.size ≤ K') : DSt w (W.setCell ⟨z, k, none⟩ (.string t)) b z3 z5 B Bk K' p q kp where
  mt := h.mt.setT hz hK ht
  at1 := other_block hz h.at1 (podObj_ne (by decide) _) _
  at3 := other_block hz h.at3 (podObj_ne (by decide) _) _
  at5 := other_block hz h.at5 (podObj_ne (by decide) _) _
  kept := h.kept.setType hz (by decide) (by decide) (by decide) _ _
  fr := h.fr.setCell (p := ⟨z, k, none⟩) (Nat.le_trans h.low hb) _
  low := h.low
theorem DSt.setP (h : DSt w W b z3 z5 B Bk K p q kp) {z k : Nat} {ar : Array Value} (hb : B ≤ z) (hz : W.heap[z]? = some (.cells ar 55 (0, 0))) (t : Int) : DSt w (W.setCell ⟨z, k, none⟩ (.int .i64 t)) b z3 z5 B Bk K p q kp where
  mt := h.mt.setP hz t
  at1 := other_block hz h.at1 (podObj_ne (by decide) _) _
  at3 := other_block hz h.at3 (podObj_ne (by decide) _) _
  at5 := other_block hz h.at5 (podObj_ne (by decide) _) _
  kept := h.kept.setType hz (by decide) (by decide) (by decide) _ _
  fr := h.fr.setCell (p := ⟨z, k, none⟩) (Nat.le_trans h.low hb) _
  low := h.low
end
end Go.Proofs.YtfhhmajkacjbgaaDoor

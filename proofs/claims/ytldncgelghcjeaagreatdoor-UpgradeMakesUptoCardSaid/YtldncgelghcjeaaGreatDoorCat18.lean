/-
  A pod, as the document has it: the same texts and numbers, in rows of its own.
-/
import Derived.Test.YtldncgelghcjeaaGreatDoorCat11
import Derived.Deep.Onto
import Derived.Test.YtldncgelghcjeaaGreatDoorCat02
set_option linter.unusedSimpArgs false
set_option linter.unusedVariables false
namespace Go.Proofs.YtldncgelghcjeaaGreatDoor
open Go.ChangeShapes Go.WideShapes Go.ChangeAt Go.RowKit

theorem infoP : (Tryz.prog.info? 117).map (fun i => (i.zero, i.size, i.bytes)) = some (some (.agg #[.int .i64 0, .int .i64 0]), 2, 16) := by kernel_rfl
theorem infoE : (Tryz.prog.info? 119).map (fun i => (i.zero, i.size, i.bytes)) = some (some (.agg #[.string ⟨#[]⟩, .string ⟨#[]⟩]), 2, 32) := by kernel_rfl
/-- A container of the answer: its texts lie where they lay, its ports and variables in rows of its own. -/
structure DIn (w W : World) (B : Nat) (m : CM) : Prop where
  cmd : RowAt w m.ca (tcells m.c.cmd)
  ports : W.ownsRow B 117 2 (.slice m.pa m.c.ports.length m.pc) m.c.ports.length (pcells m.c.ports)
  env : W.ownsRow B 119 2 (.slice m.ea m.c.env.length m.ec) m.c.env.length (ecells m.c.env)
theorem DIn.fresh {w W W' : World} {B : Nat} {m : CM} (h : DIn w W B m) (f : Fresh W W') : DIn w W' B m := ⟨h.cmd, own_fresh h.ports f, own_fresh h.env f⟩
theorem DIn.set {w W : World} {B : Nat} {m : CM} (h : DIn w W B m) {p : Addr} (hp : p.block < B) (u : Value) : DIn w (W.setCell ⟨p.block, p.off, none⟩ u) B m := ⟨h.cmd, own_set h.ports hp u, own_set h.env hp u⟩
theorem DIn.grow {w W W' : World} {B B' k n : Nat} {m : CM} {v : Value} {xs : List Value} (h : DIn w W B m) (hv : W.ownsRow B' 115 k v n xs) (g : W.grownBy W' v.ownBlock) : DIn w W' B m :=
  ⟨h.cmd, World.ownsRow.kept h.ports g (own_ne h.ports hv (by decide)), World.ownsRow.kept h.env g (own_ne h.env hv (by decide))⟩
theorem DIn.inn {w W : World} {B : Nat} {m : CM} (h : DIn w W B m) (f : Fresh w W) : m.In W := ⟨h.cmd.move f, RowAt.owns h.ports, RowAt.owns h.env, own_le h.ports⟩
theorem pcells_snoc (l : List (Int × Int)) (x : Int × Int) : pcells (l ++ [x]) = pcells l ++ pcell x := by simp [pcells]
theorem ecells_snoc (l : List (ByteArray × ByteArray)) (x : ByteArray × ByteArray) : ecells (l ++ [x]) = ecells l ++ ecell x := by simp [ecells]
theorem DIn.mono {w W : World} {B B' : Nat} {m : CM} (h : DIn w W B m) (hb : B' ≤ B) : DIn w W B' m := ⟨h.cmd, World.ownsRow.mono h.ports hb, World.ownsRow.mono h.env hb⟩
/-- A pod as the document has it: its texts' rows lie where they lay, the other ones in memory of its own, from block B on. -/
structure OAt (w0 W : World) (B : Nat) (q : PM) : Prop where
  row : W.ownsRow B 115 7 (.slice q.a q.cs.length q.cap) q.cs.length (ccells q.cs)
  ins : ∀ m ∈ q.cs, DIn w0 W B m
theorem OAt.at {w0 W : World} {B : Nat} {q : PM} (h : OAt w0 W B q) (f : Fresh w0 W) : q.At W := ⟨RowAt.owns h.row, fun m hm => (h.ins m hm).inn f, own_le h.row⟩
theorem OAt.fresh {w0 W W' : World} {B : Nat} {q : PM} (h : OAt w0 W B q) (f : Fresh W W') : OAt w0 W' B q := ⟨own_fresh h.row f, fun m hm => (h.ins m hm).fresh f⟩
/-- A cell of a block of another type, or of one ahead, plays no part in it. -/
theorem OAt.setLow {w0 W : World} {B : Nat} {q : PM} (h : OAt w0 W B q) {p : Addr} (hp : p.block < B) (u : Value) : OAt w0 (W.setCell ⟨p.block, p.off, none⟩ u) B q := ⟨own_set h.row hp u, fun m hm => (h.ins m hm).set hp u⟩
theorem OAt.setType {w0 W : World} {B : Nat} {q : PM} (h : OAt w0 W B q) {z t : Nat} {cs : Array Value} {fz : Nat × Nat} (hz : W.heap[z]? = some (.cells cs t fz)) (h1 : 115 ≠ t) (h2 : 117 ≠ t) (h3 : 119 ≠ t) (i : Nat) (u : Value) : OAt w0 (W.setCell ⟨z, i, none⟩ u) B q :=
  ⟨own_type h.row hz h1 i u, fun m hm => ⟨(h.ins m hm).cmd, own_type (h.ins m hm).ports hz h2 i u, own_type (h.ins m hm).env hz h3 i u⟩⟩
set_option maxRecDepth 100000 in
set_option maxHeartbeats 4000000 in
theorem of_own (p : PM) (w0 w : World) (h : p.At w0) (f0 : Fresh w0 w) (hl : p.Low) : Calls Tryz.prog 19 #[p.val] w fun e w' => ∃ q : PM, e = .returned q.val ∧ q.pd = p.pd ∧ OAt w0 w' w.heap.size q ∧ Fresh w w' := by
  obtain ⟨name, ns, rs, gr, ho, a, cap, cs⟩ := p
  have HROW := Lib.hid h.row
  have HINS := Lib.hid h.ins
  have F0 := Lib.hid f0
  have hn3 : cs.length ≤ 1048576 := hl.len
  have HLC := Lib.hid hl.cs
  obtain ⟨i0, hi, hz0, hz1, hz2⟩ := info_parts infoC
  obtain ⟨ip, hip, hp0, hp1, hp2⟩ := info_parts infoP
  obtain ⟨ie, hie, he0, he1, he2⟩ := info_parts infoE
  dsimp only [PM.val, PM.pd] at *
  clear h hl f0
  have hA := at_new ((w.alloc (.cells #[.string name, .string ns, .int .i64 rs, .int .i64 gr, .bool ho, .slice a cs.length cap] 41)).alloc (.cells #[.string ⟨#[]⟩, .string ⟨#[]⟩, .int .i64 0, .int .i64 0, .bool false, .slice none 0 0] 46)) (.cells #[.string name, .string ns, .int .i64 rs, .int .i64 gr, .bool ho, .slice none 0 0] 46)
  rw [World.size_alloc, World.size_alloc] at hA
  have hB := at_new (w.alloc (.cells #[.string name, .string ns, .int .i64 rs, .int .i64 gr, .bool ho, .slice a cs.length cap] 41)) (.cells #[.string ⟨#[]⟩, .string ⟨#[]⟩, .int .i64 0, .int .i64 0, .bool false, .slice none 0 0] 46)
  rw [World.size_alloc] at hB
  have hB := at_alloc (p := .cells #[.string name, .string ns, .int .i64 rs, .int .i64 gr, .bool ho, .slice none 0 0] 46) hB
  have HF0 := Lib.hid ((((Fresh.refl w).alloc (.cells #[.string name, .string ns, .int .i64 rs, .int .i64 gr, .bool ho, .slice a cs.length cap] 41)).alloc (.cells #[.string ⟨#[]⟩, .string ⟨#[]⟩, .int .i64 0, .int .i64 0, .bool false, .slice none 0 0] 46)).alloc (.cells #[.string name, .string ns, .int .i64 rs, .int .i64 gr, .bool ho, .slice none 0 0] 46))
  have HA := Lib.hid hA
  have HB := Lib.hid hB
  have HSZ : Hid ((((w.alloc (.cells #[.string name, .string ns, .int .i64 rs, .int .i64 gr, .bool ho, .slice a cs.length cap] 41)).alloc (.cells #[.string ⟨#[]⟩, .string ⟨#[]⟩, .int .i64 0, .int .i64 0, .bool false, .slice none 0 0] 46)).alloc (.cells #[.string name, .string ns, .int .i64 rs, .int .i64 gr, .bool ho, .slice none 0 0] 46)).heap.size = w.heap.size + 3) := by simp [Hid]
  clear hA hB
  go_enter Tryz.func19, Tryz.ntmps19
  go_wp2
  generalize ((w.alloc (.cells #[.string name, .string ns, .int .i64 rs, .int .i64 gr, .bool ho, .slice a cs.length cap] 41)).alloc (.cells #[.string ⟨#[]⟩, .string ⟨#[]⟩, .int .i64 0, .int .i64 0, .bool false, .slice none 0 0] 46)).alloc (.cells #[.string name, .string ns, .int .i64 rs, .int .i64 gr, .bool ho, .slice none 0 0] 46) = W0 at *
  obtain ⟨b, hb⟩ : ∃ b, b = w.heap.size := ⟨_, rfl⟩
  have HBW := Lib.hid hb
  rw [← hb] at HA HB HSZ ⊢
  clear hb
  have HIN : Hid (∀ m ∈ cs, m.In W0) := fun m hm => ((HINS.out m hm).move F0.out).move HF0.out
  go_loopw [25] (fun a25 wr => ∃ (k : Nat) (o : Option Addr) (c : Nat) (D : List CM), a25 = .int .i64 (k : Int) ∧ k ≤ cs.length ∧ Hid (D.length = k ∧ D.map (·.c) = (cs.take k).map (·.c)) ∧ Hid (wr.heap[b + 1]? = some (.cells #[.string ⟨#[]⟩, .string ⟨#[]⟩, .int .i64 0, .int .i64 0, .bool false, .slice none 0 0] 46)) ∧ Hid (wr.heap[b + 2]? = some (.cells #[.string name, .string ns, .int .i64 rs, .int .i64 gr, .bool ho, .slice o k c] 46)) ∧
    Hid (wr.ownsRow (b + 3) 115 7 (.slice o k c) k (ccells D)) ∧ Hid (∀ m ∈ D, DIn w0 wr (b + 3) m) ∧ Hid (Fresh w wr)) (fun a25 _ => cs.length - (intOf a25).toNat)
  case atStart => exact ⟨0, none, 0, [], rfl, Nat.zero_le _, ⟨rfl, rfl⟩, HB.out, HA.out, World.ownsRow_nil _ _ _ _, (fun m hm => absurd hm List.not_mem_nil), HF0.out⟩
  case round =>
    obtain ⟨k, o, c, D, rfl, hk, HD, HB1, HB2, HOW, HDI, HF⟩ := hrel
    obtain ⟨wr0, hw0⟩ : ∃ wr0, wr0 = wr := ⟨_, rfl⟩
    subst hw0
    by_cases hlt : k < cs.length
    · obtain ⟨g, o1, ea, hc⟩ := crow_form ((HROW.out.move F0.out).move HF.out) hlt
      obtain ⟨c0, c1, c2, c3, c4, c5, c6⟩ := hc k hlt
      have HM : Hid (cs[k].In w0) := HINS.out _ (List.getElem_mem hlt)
      have HLM := Lib.hid (HLC.out _ (List.getElem_mem hlt))
      have HTK : Hid ((cs.take (k + 1)).map (·.c) = (cs.take k).map (·.c) ++ [cs[k].c]) := by rw [Hid, List.take_succ_eq_append_getElem hlt, List.map_append]; rfl
      have hsz3 : b + 2 < wr0.heap.size := lt_of_at HB2.out
      subst ea
      clear hc
      generalize cs[k] = m at *
      have HLC2 : Hid (m.c.ports.length ≤ 1048576 ∧ m.c.env.length ≤ 1048576) := ⟨HLM.out.lp, HLM.out.le⟩
      have HRC := Lib.hid HM.out.cmd
      have HRP := Lib.hid HM.out.ports
      have HRE := Lib.hid HM.out.env
      obtain ⟨mc, ca, cc, pa, pc, ea, ec⟩ := m
      obtain ⟨s0, s1, lc, lp, n4, n5, le⟩ := mc
      dsimp only at *
      have hA5 := at_alloc (p := .cells #[.string s0, .string s1, .slice ca lc.length cc, .slice none 0 0, .int .i64 n4, .int .i64 n5, .slice none 0 0] 115) (at_new wr0 (.cells #[.string s0, .string s1, .slice ca lc.length cc, .slice pa lp.length pc, .int .i64 n4, .int .i64 n5, .slice ea le.length ec] 126))
      have hA6 := at_new (wr0.alloc (.cells #[.string s0, .string s1, .slice ca lc.length cc, .slice pa lp.length pc, .int .i64 n4, .int .i64 n5, .slice ea le.length ec] 126)) (.cells #[.string s0, .string s1, .slice ca lc.length cc, .slice none 0 0, .int .i64 n4, .int .i64 n5, .slice none 0 0] 115)
      rw [World.size_alloc] at hA6
      have HF1 := Lib.hid (((Fresh.refl wr0).alloc (.cells #[.string s0, .string s1, .slice ca lc.length cc, .slice pa lp.length pc, .int .i64 n4, .int .i64 n5, .slice ea le.length ec] 126)).alloc (.cells #[.string s0, .string s1, .slice ca lc.length cc, .slice none 0 0, .int .i64 n4, .int .i64 n5, .slice none 0 0] 115))
      have HS1 : Hid (((wr0.alloc (.cells #[.string s0, .string s1, .slice ca lc.length cc, .slice pa lp.length pc, .int .i64 n4, .int .i64 n5, .slice ea le.length ec] 126)).alloc (.cells #[.string s0, .string s1, .slice ca lc.length cc, .slice none 0 0, .int .i64 n4, .int .i64 n5, .slice none 0 0] 115)).heap.size = wr0.heap.size + 2) := by simp [Hid]
      have HA5 := Lib.hid hA5
      have HA6 := Lib.hid hA6
      clear hA5 hA6
      go_wp2
      generalize (wr0.alloc (.cells #[.string s0, .string s1, .slice ca lc.length cc, .slice pa lp.length pc, .int .i64 n4, .int .i64 n5, .slice ea le.length ec] 126)).alloc (.cells #[.string s0, .string s1, .slice ca lc.length cc, .slice none 0 0, .int .i64 n4, .int .i64 n5, .slice none 0 0] 115) = W1 at *
      clear c0 c1 c2 c3 c4 c5 c6
      obtain ⟨z, hz⟩ : ∃ z, z = wr0.heap.size := ⟨_, rfl⟩
      have HZW := Lib.hid hz
      rw [← hz] at HA5 HA6 HS1 hsz3 ⊢
      clear hz
      go_loopw [43] (fun a43 wq => ∃ (j : Nat) (po : Option Addr) (pcap : Nat), a43 = .int .i64 (j : Int) ∧ j ≤ lp.length ∧ Hid (wq.heap[z]? = some (.cells #[.string s0, .string s1, .slice ca lc.length cc, .slice pa lp.length pc, .int .i64 n4, .int .i64 n5, .slice ea le.length ec] 126)) ∧ Hid (wq.heap[z + 1]? = some (.cells #[.string s0, .string s1, .slice ca lc.length cc, .slice po j pcap, .int .i64 n4, .int .i64 n5, .slice none 0 0] 115)) ∧
        Hid (wq.ownsRow (z + 2) 117 2 (.slice po j pcap) j (pcells (lp.take j))) ∧ Hid (Fresh wr0 wq)) (fun a43 _ => lp.length - (intOf a43).toNat)
      case atStart => exact ⟨0, none, 0, rfl, Nat.zero_le _, HA5.out, HA6.out, World.ownsRow_nil _ _ _ _, HF1.out⟩
      case round =>
        obtain ⟨j, po, pcap, rfl, hj, HQ5, HQ6, HPR, HFq⟩ := hrel
        obtain ⟨hlp, _⟩ := HLC2.out
        have hzq : z + 1 < wr.heap.size := lt_of_at HQ6.out
        by_cases hlt2 : j < lp.length
        · obtain ⟨g2, o2, e2, hc2⟩ := prow_form (((HRP.out.move F0.out).move HF.out).move HFq.out) hlt2
          obtain ⟨x1, x2⟩ := hc2 j hlt2
          have HTJ : Hid (pcells (lp.take (j + 1)) = pcells (lp.take j) ++ [.int .i64 lp[j].1, .int .i64 lp[j].2]) := by rw [Hid, List.take_succ_eq_append_getElem hlt2, pcells_snoc]; rfl
          clear hc2
          generalize lp[j].1 = un at *
          generalize lp[j].2 = up at *
          obtain ⟨⟨_, _, _, c3, _, _, _⟩, hfz⟩ := Box7.cells (show Box7 115 wr (z + 1) s0 s1 (.slice ca lc.length cc) (.slice po j pcap) n4 n5 (.slice none 0 0) from HQ6.out)
          have f3 := hfz 3
          clear hfz
          subst e2
          have HN2 : Hid (∀ j u, [Value.int .i64 un, .int .i64 up][j]? = some u → ((wr.alloc (.cells #[.int .i64 un, .int .i64 up] 129)).alloc (.cells #[.int .i64 un, .int .i64 up] 117)).cell? ((⟨wr.heap.size + 1, 0, none⟩ : Addr).add j) = some u) := by
            have := news7 (wr.alloc (.cells #[.int .i64 un, .int .i64 up] 129)) 117 [.int .i64 un, .int .i64 up]
            rw [World.size_alloc] at this
            exact this
          have HLT : Hid (∀ g, (Value.slice po j pcap).ownBlock = some g → z + 2 ≤ g) := fun g e => (World.ownsRow.lt HPR.out g e).1
          go_wp2_with (at_builtin; refine Hid.out ?_)
          refine Lib.hid ?_
          refine wpList_append_own _ rfl _ _ 112 rfl (z + 2) 117 ip (.agg #[.int .i64 0, .int .i64 0]) 2 16 Tryz.underlying112 hip hp0 hp1 hp2 rfl (by decide) _ j _ rfl (World.ownsRow.alloc (World.ownsRow.alloc HPR.out _) _) ⟨wr.heap.size + 1, 0, none⟩ 1 1 [.int .i64 un, .int .i64 up] rfl rfl HN2.out (by simp [Value.oneCell']) (by unfold maxLen; omega) (by omega) (by rw [World.size_alloc, World.size_alloc]; omega) ?_
          intro v' w3 hown' hgrow _
          obtain ⟨g', cap', rfl⟩ := ownsRow_succ hown'
          have HOWN := Lib.hid hown'
          have HGROW := Lib.hid hgrow
          have hb6 : w3.heap[z + 1]? = some (.cells #[.string s0, .string s1, .slice ca lc.length cc, .slice po j pcap, .int .i64 n4, .int .i64 n5, .slice none 0 0] 115) := (hgrow.block (z + 1) (by rw [World.size_alloc, World.size_alloc]; omega) (fun e => by have := HLT.out (z + 1) e.symm; omega)).trans (at_alloc (at_alloc HQ6.out))
          have hb5 : w3.heap[z]? = some (.cells #[.string s0, .string s1, .slice ca lc.length cc, .slice (some ⟨g2, o2, none⟩) lp.length pc, .int .i64 n4, .int .i64 n5, .slice ea le.length ec] 126) := (hgrow.block z (by rw [World.size_alloc, World.size_alloc]; omega) (fun e => by have := HLT.out z e.symm; omega)).trans (at_alloc (at_alloc HQ5.out))
          have HB6 := Lib.hid hb6
          have HB5 := Lib.hid hb5
          have k3 := cell_of_at hb6 (i := 3) rfl
          have kf3 : w3.frozen? ⟨z + 1, 3, none⟩ = false := by simp [World.frozen?, hb6]
          clear hown' hgrow hb5 hb6
          go_wp2
          all_goals try (exfalso; omega)
          go_roundw
          case rel =>
            refine ⟨j + 1, some ⟨g', 0, none⟩, cap', by simp, by omega, at_off HB5.out (Nat.ne_of_lt (Nat.lt_succ_self z)) _, at_set HB6.out 3 _, ?_, ?_⟩
            · have := own_set (p := ⟨z + 1, 3, none⟩) HOWN.out (by show z + 1 < z + 2; omega) (.slice (some ⟨g', 0, none⟩) (j + 1) cap')
              rw [HTJ.out]
              exact this
            · exact ((((HFq.out.alloc _).alloc _).grown HGROW.out (fun g e => by have := HLT.out g e; have := HZW.out; omega)).setCell (p := ⟨z + 1, 3, none⟩) (by have := HZW.out; show _ ≤ z + 1; omega) _)
          case measure => simp [intOf]; omega
        · obtain rfl : j = lp.length := by omega
          have HPP : Hid (wr.ownsRow (z + 2) 117 2 (.slice po lp.length pcap) lp.length (pcells lp)) := by
            have := HPR.out
            rw [List.take_length] at this
            exact this
          clear HPR
          obtain ⟨⟨_, _, _, _, _, _, c6⟩, _⟩ := Box7.cells (show Box7 126 wr z s0 s1 (.slice ca lc.length cc) (.slice pa lp.length pc) n4 n5 (.slice ea le.length ec) from HQ5.out)
          go_wp2
          all_goals try (exfalso; omega)
          clear c6
          generalize po = po2 at *
          generalize pcap = pcap2 at *
          go_loopw [61] (fun a61 wq => ∃ (j : Nat) (po : Option Addr) (pcap : Nat), a61 = .int .i64 (j : Int) ∧ j ≤ le.length ∧ Hid (wq.heap[z]? = some (.cells #[.string s0, .string s1, .slice ca lc.length cc, .slice pa lp.length pc, .int .i64 n4, .int .i64 n5, .slice ea le.length ec] 126)) ∧ Hid (wq.heap[z + 1]? = some (.cells #[.string s0, .string s1, .slice ca lc.length cc, .slice po2 lp.length pcap2, .int .i64 n4, .int .i64 n5, .slice po j pcap] 115)) ∧
            Hid (wq.ownsRow (z + 2) 119 2 (.slice po j pcap) j (ecells (le.take j))) ∧ Hid (wq.ownsRow (z + 2) 117 2 (.slice po2 lp.length pcap2) lp.length (pcells lp)) ∧ Hid (Fresh wr0 wq)) (fun a61 _ => le.length - (intOf a61).toNat)
          case atStart => exact ⟨0, none, 0, rfl, Nat.zero_le _, HQ5.out, HQ6.out, World.ownsRow_nil _ _ _ _, HPP.out, HFq.out⟩
          case round =>
            obtain ⟨j, po, pcap, rfl, hj, HQ5, HQ6, HPR, HPP, HFq⟩ := hrel
            obtain ⟨_, hlp⟩ := HLC2.out
            have hzq : z + 1 < wr.heap.size := lt_of_at HQ6.out
            by_cases hlt2 : j < le.length
            · obtain ⟨g2, o2, e2, hc2⟩ := erow_form (((HRE.out.move F0.out).move HF.out).move HFq.out) hlt2
              obtain ⟨x1, x2⟩ := hc2 j hlt2
              have HTJ : Hid (ecells (le.take (j + 1)) = ecells (le.take j) ++ [.string le[j].1, .string le[j].2]) := by rw [Hid, List.take_succ_eq_append_getElem hlt2, ecells_snoc]; rfl
              clear hc2
              generalize le[j].1 = un at *
              generalize le[j].2 = up at *
              obtain ⟨⟨_, _, _, _, _, _, c3⟩, hfz⟩ := Box7.cells (show Box7 115 wr (z + 1) s0 s1 (.slice ca lc.length cc) (.slice po2 lp.length pcap2) n4 n5 (.slice po j pcap) from HQ6.out)
              have f3 := hfz 6
              clear hfz
              subst e2
              have HN2 : Hid (∀ j u, [Value.string un, .string up][j]? = some u → ((wr.alloc (.cells #[.string un, .string up] 130)).alloc (.cells #[.string un, .string up] 119)).cell? ((⟨wr.heap.size + 1, 0, none⟩ : Addr).add j) = some u) := by
                have := news7 (wr.alloc (.cells #[.string un, .string up] 130)) 119 [.string un, .string up]
                rw [World.size_alloc] at this
                exact this
              have HLT : Hid (∀ g, (Value.slice po j pcap).ownBlock = some g → z + 2 ≤ g) := fun g e => (World.ownsRow.lt HPR.out g e).1
              go_wp2_with (at_builtin; refine Hid.out ?_)
              refine Lib.hid ?_
              refine wpList_append_own _ rfl _ _ 113 rfl (z + 2) 119 ie (.agg #[.string ⟨#[]⟩, .string ⟨#[]⟩]) 2 32 Tryz.underlying113 hie he0 he1 he2 rfl (by decide) _ j _ rfl (World.ownsRow.alloc (World.ownsRow.alloc HPR.out _) _) ⟨wr.heap.size + 1, 0, none⟩ 1 1 [.string un, .string up] rfl rfl HN2.out (by simp [Value.oneCell']) (by unfold maxLen; omega) (by omega) (by rw [World.size_alloc, World.size_alloc]; omega) ?_
              intro v' w3 hown' hgrow _
              obtain ⟨g', cap', rfl⟩ := ownsRow_succ hown'
              have HOWN := Lib.hid hown'
              have HGROW := Lib.hid hgrow
              have hb6 : w3.heap[z + 1]? = some (.cells #[.string s0, .string s1, .slice ca lc.length cc, .slice po2 lp.length pcap2, .int .i64 n4, .int .i64 n5, .slice po j pcap] 115) := (hgrow.block (z + 1) (by rw [World.size_alloc, World.size_alloc]; omega) (fun e => by have := HLT.out (z + 1) e.symm; omega)).trans (at_alloc (at_alloc HQ6.out))
              have hb5 : w3.heap[z]? = some (.cells #[.string s0, .string s1, .slice ca lc.length cc, .slice pa lp.length pc, .int .i64 n4, .int .i64 n5, .slice (some ⟨g2, o2, none⟩) le.length ec] 126) := (hgrow.block z (by rw [World.size_alloc, World.size_alloc]; omega) (fun e => by have := HLT.out z e.symm; omega)).trans (at_alloc (at_alloc HQ5.out))
              have HB6 := Lib.hid hb6
              have HB5 := Lib.hid hb5
              have k3 := cell_of_at hb6 (i := 6) rfl
              have kf3 : w3.frozen? ⟨z + 1, 6, none⟩ = false := by simp [World.frozen?, hb6]
              clear hown' hgrow hb5 hb6
              go_wp2
              all_goals try (exfalso; omega)
              go_roundw
              case rel =>
                refine ⟨j + 1, some ⟨g', 0, none⟩, cap', by simp, by omega, at_off HB5.out (Nat.ne_of_lt (Nat.lt_succ_self z)) _, at_set HB6.out 6 _, ?_, ?_, ?_⟩
                · have := own_set (p := ⟨z + 1, 6, none⟩) HOWN.out (by show z + 1 < z + 2; omega) (.slice (some ⟨g', 0, none⟩) (j + 1) cap')
                  rw [HTJ.out]
                  exact this
                · have h1 := own_fresh HPP.out (((Fresh.refl wr).alloc (.cells #[.string un, .string up] 130)).alloc (.cells #[.string un, .string up] 119))
                  have h2 := World.ownsRow.kept h1 HGROW.out (own_ne h1 (World.ownsRow.alloc (World.ownsRow.alloc HPR.out (.cells #[.string un, .string up] 130)) (.cells #[.string un, .string up] 119)) (by decide))
                  exact own_set (p := ⟨z + 1, 6, none⟩) h2 (by show z + 1 < z + 2; omega) _
                · exact ((((HFq.out.alloc _).alloc _).grown HGROW.out (fun g e => by have := HLT.out g e; have := HZW.out; omega)).setCell (p := ⟨z + 1, 6, none⟩) (by have := HZW.out; show _ ≤ z + 1; omega) _)
              case measure => simp [intOf]; omega
            · obtain rfl : j = le.length := by omega
              have HEE : Hid (wr.ownsRow (z + 2) 119 2 (.slice po le.length pcap) le.length (ecells le)) := by
                have := HPR.out
                rw [List.take_length] at this
                exact this
              clear HPR
              have hb2 := HFq.out.at HB2.out
              have hb1 := HFq.out.at HB1.out
              obtain ⟨⟨_, _, _, _, _, q5⟩, hfz⟩ := box6p hb2
              have fz := hfz 5
              clear hfz
              obtain ⟨⟨c0, c1, c2, c3, c4, c5, c6⟩, _⟩ := Box7.cells (show Box7 115 wr (z + 1) s0 s1 (.slice ca lc.length cc) (.slice po2 lp.length pcap2) n4 n5 (.slice po le.length pcap) from HQ6.out)
              have HOW2 := Lib.hid (own_fresh HOW.out HFq.out)
              have HLT : Hid (∀ g, (Value.slice o k c).ownBlock = some g → b + 3 ≤ g) := fun g e => (World.ownsRow.lt HOW2.out g e).1
              have HN7 := Lib.hid (news7 wr 115 [.string s0, .string s1, .slice ca lc.length cc, .slice po2 lp.length pcap2, .int .i64 n4, .int .i64 n5, .slice po le.length pcap])
              have hzz : z + 1 < wr.heap.size := lt_of_at HQ6.out
              have HB1q := Lib.hid hb1
              have HB2q := Lib.hid hb2
              clear hb1 hb2
              go_wp2_with (at_builtin; refine Hid.out ?_)
              refine Lib.hid ?_
              refine wpList_append_own _ rfl _ _ 44 rfl (b + 3) 115 i0 (.agg #[.string ⟨#[]⟩, .string ⟨#[]⟩, .slice none 0 0, .slice none 0 0, .int .i64 0, .int .i64 0, .slice none 0 0]) 7 120 Tryz.underlying44 hi hz0 hz1 hz2 rfl (by decide) _ k _ rfl (World.ownsRow.alloc HOW2.out _) ⟨wr.heap.size, 0, none⟩ 1 1 [.string s0, .string s1, .slice ca lc.length cc, .slice po2 lp.length pcap2, .int .i64 n4, .int .i64 n5, .slice po le.length pcap] rfl rfl HN7.out (by simp [Value.oneCell']) (by unfold maxLen; omega) (by omega) (by rw [World.size_alloc]; omega) ?_
              intro v' w3 hown' hgrow _
              obtain ⟨g', cap', rfl⟩ := ownsRow_succ hown'
              have hb2 := (hgrow.block (b + 2) (by rw [World.size_alloc]; omega) (fun e => by have := HLT.out (b + 2) e.symm; omega)).trans (at_alloc HB2q.out)
              have hb1 := (hgrow.block (b + 1) (by rw [World.size_alloc]; omega) (fun e => by have := HLT.out (b + 1) e.symm; omega)).trans (at_alloc HB1q.out)
              have k5 := (box6p hb2).1.2.2.2.2.2
              have kf := (box6p hb2).2 5
              have HOWN := Lib.hid hown'
              have HGROW := Lib.hid hgrow
              have HB1r := Lib.hid hb1
              have HB2r := Lib.hid hb2
              clear hown' hgrow hb1 hb2 c0 c1 c2 c3 c4 c5 c6 q5 fz
              go_wp2
              all_goals try (exfalso; omega)
              have HAL := Lib.hid (World.ownsRow.alloc HOW2.out (.cells #[.string s0, .string s1, .slice ca lc.length cc, .slice po2 lp.length pcap2, .int .i64 n4, .int .i64 n5, .slice po le.length pcap] 115))
              have HNEW : Hid (DIn w0 (w3.setCell ⟨b + 2, 5, none⟩ (.slice (some ⟨g', 0, none⟩) (k + 1) cap')) (b + 3) ⟨⟨s0, s1, lc, lp, n4, n5, le⟩, ca, cc, po2, pcap2, po, pcap⟩) :=
                (((DIn.fresh (w := w0) (W := wr) (B := b + 3) (m := ⟨⟨s0, s1, lc, lp, n4, n5, le⟩, ca, cc, po2, pcap2, po, pcap⟩) ⟨HRC.out, World.ownsRow.mono HPP.out (by omega), World.ownsRow.mono HEE.out (by omega)⟩ ((Fresh.refl wr).alloc _)).grow HAL.out HGROW.out).set (p := ⟨b + 2, 5, none⟩) (by show b + 2 < b + 3; omega) _)
              go_roundw
              case rel =>
                refine ⟨k + 1, some ⟨g', 0, none⟩, cap', D ++ [⟨⟨s0, s1, lc, lp, n4, n5, le⟩, ca, cc, po2, pcap2, po, pcap⟩], by simp, by omega, ⟨?_, ?_⟩, at_off HB1r.out (by omega) _, at_set HB2r.out 5 _, ?_, ?_, ?_⟩
                · rw [List.length_append, HD.out.1]; rfl
                · rw [List.map_append, HD.out.2, HTK.out]; rfl
                · have := own_set (p := ⟨b + 2, 5, none⟩) HOWN.out (by show b + 2 < b + 3; omega) (.slice (some ⟨g', 0, none⟩) (k + 1) cap')
                  rw [show ccells (D ++ [(⟨⟨s0, s1, lc, lp, n4, n5, le⟩, ca, cc, po2, pcap2, po, pcap⟩ : CM)]) = ccells D ++ [.string s0, .string s1, .slice ca lc.length cc, .slice po2 lp.length pcap2, .int .i64 n4, .int .i64 n5, .slice po le.length pcap] by simp [ccells, CM.cells]]
                  exact this
                · intro m hm
                  rcases List.mem_append.1 hm with h | h
                  · exact ((((HDI.out m h).fresh HFq.out).fresh ((Fresh.refl wr).alloc _)).grow HAL.out HGROW.out).set (p := ⟨b + 2, 5, none⟩) (by show b + 2 < b + 3; omega) _
                  · rw [List.mem_singleton.1 h]; exact HNEW.out
                · exact (((HF.out.trans HFq.out).alloc _).grown HGROW.out (fun g e => by have := HLT.out g e; have := HBW.out; omega)).setCell (p := ⟨b + 2, 5, none⟩) (by have := HBW.out; show _ ≤ b + 2; omega) _
              case measure => simp [intOf]; omega
    · obtain rfl : k = cs.length := by omega
      obtain ⟨⟨p0, p1, p2, p3, p4, p5⟩, _⟩ := box6p HB2.out
      obtain ⟨⟨q0, q1, q2, q3, q4, q5⟩, hfz⟩ := box6p HB1.out
      have f0 := hfz 0
      have f1 := hfz 1
      have f2 := hfz 2
      have f3 := hfz 3
      have f4 := hfz 4
      have f5 := hfz 5
      clear hfz
      have HBL : Hid (∀ ad : Addr, o = some ad → b + 3 ≤ ad.block) := fun ad e => (World.ownsRow.lt HOW.out ad.block (by rw [e]; rfl)).1
      go_wp2
      all_goals try (exfalso; omega)
      have l1 : ∀ i, (⟨b + 1, i, none⟩ : Addr).block < b + 3 := fun i => by show b + 1 < b + 3; omega
      refine bodyPost_ret (v := .agg #[.string name, .string ns, .int .i64 rs, .int .i64 gr, .bool ho, .slice o cs.length c]) (by simp [results, Tryz.f19, go_sem, *]) rfl ⟨⟨name, ns, rs, gr, ho, o, c, D⟩, ?_, ?_, ⟨?_, ?_⟩, ?_⟩
      · rw [HD.out.1]
      · refine ⟨rfl, rfl, rfl, rfl, rfl, ?_⟩
        show D.map (·.c) = _
        rw [HD.out.2, List.take_length]
      · show World.ownsRow _ _ _ _ (.slice o D.length c) D.length (ccells D)
        rw [HD.out.1]
        refine World.ownsRow.mono (base := b + 3) ?_ (by have := HBW.out; omega)
        exact own_set (p := ⟨b + 1, 5, none⟩) (own_set (p := ⟨b + 1, 4, none⟩) (own_set (p := ⟨b + 1, 3, none⟩) (own_set (p := ⟨b + 1, 2, none⟩) (own_set (p := ⟨b + 1, 1, none⟩) (own_set (p := ⟨b + 1, 0, none⟩) HOW.out (l1 0) _) (l1 1) _) (l1 2) _) (l1 3) _) (l1 4) _) (l1 5) _
      · intro m hm
        refine DIn.mono (B := b + 3) ?_ (by have := HBW.out; omega)
        exact DIn.set (p := ⟨b + 1, 5, none⟩) (DIn.set (p := ⟨b + 1, 4, none⟩) (DIn.set (p := ⟨b + 1, 3, none⟩) (DIn.set (p := ⟨b + 1, 2, none⟩) (DIn.set (p := ⟨b + 1, 1, none⟩) (DIn.set (p := ⟨b + 1, 0, none⟩) (HDI.out m hm) (l1 0) _) (l1 1) _) (l1 2) _) (l1 3) _) (l1 4) _) (l1 5) _
      · repeat (refine Fresh.setCell ?_ (by have := HBW.out; simp; omega) _)
        exact HF.out
theorem of_any (p : PM) (w : World) (h : p.At w) (hl : p.Low) : Calls Tryz.prog 19 #[p.val] w fun e w' => ∃ q : PM, e = .returned q.val ∧ q.pd = p.pd ∧ q.At w' ∧ Fresh w w' :=
  (of_own p w w h (Fresh.refl w) hl).mono (fun e w' ⟨q, h1, h2, h3, h4⟩ => ⟨q, h1, h2, h3.at h4, h4⟩)
end Go.Proofs.YtldncgelghcjeaaGreatDoor

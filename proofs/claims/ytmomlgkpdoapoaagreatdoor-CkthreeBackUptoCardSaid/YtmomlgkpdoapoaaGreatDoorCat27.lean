/-
  What package ckthree's Decode returns.
  What a strings.Builder of this program does when a text is written: its bytes behind what it holds.
  What the writer of package ckthree, which has a strings.Builder in it, does when a text is written: its bytes behind what it holds.
  What is wrong with a state of version 1, by package ckone.
  The bytes of a state of version 1, by package ckone.
-/
import Derived.Test.YtmomlgkpdoapoaaGreatDoorCat26
import Derived.Test.YtmomlgkpdoapoaaGreatDoorCat17
import Derived.Test.YtmomlgkpdoapoaaGreatDoorCat02
import Derived.Test.YtmomlgkpdoapoaaGreatDoorCat01
import Derived.Lib.AppendStr
import Derived.Deep.QuietTactic
import Derived.Test.YtmomlgkpdoapoaaGreatDoorCat05
import Derived.Test.YtmomlgkpdoapoaaGreatDoorCat12
import Derived.Test.YtmomlgkpdoapoaaGreatDoorCat10
import Derived.Deep.RegionHeld3
set_option linter.unusedSimpArgs false
set_option linter.unusedVariables false
namespace Go.Proofs.YtmomlgkpdoapoaaGreatDoor.K
open Go.ChangeShapes Go.WideShapes Go.ChangeAt Go.RowKit
set_option maxRecDepth 100000

section
variable {β μ : Type}
theorem upto_lay {f : TakeF β} (hkp : KeepsE f) (hlt : LessT f) {proj : μ → β} {enc : μ → List Value} {Ex : World → μ → Prop} {b p z : Nat} {S T : TypeId} {sz : Nat} {mk : Value → Array Value} {w0 wL W : World} {s s1 s4 : ByteArray} {e e1 e4 n m most : Int} {L : List β} {F : Nat}
    (hEx : ∀ (W W' : World) (m : μ) (cz : Array Value), W.heap[z]? = some (.cells cz S) → Ex W m → Fr z T W W' → Ex W' m) (hst : LStep f proj enc Ex b p z S T sz mk w0 F) (hF : ∀ W, (callFunc F #[.pointer (some ⟨z, 0, none⟩), .pointer (some ⟨p, 0, none⟩)]).run Tryz.prog W = .ok (.enter F #[.pointer (some ⟨z, 0, none⟩), .pointer (some ⟨p, 0, none⟩)]) W)
    (hs : s.size ≤ maxLen) (hP : Ph b p z S T sz 0 (mk (.slice none 0 0)) (.slice none 0 0) [] w0 wL s e W) (hb : b < w0.heap.size) (hS : S ≠ 106) (hu : upT s e m most = (s1, e1, n)) (hn0 : 0 ≤ n) (hn1 : n ≤ 1024) (hm0 : 0 ≤ most) (hm : manyT f n.toNat s1 e1 = (s4, e4, L)) :
    Calls Tryz.prog 41 #[.pointer (some ⟨b, 0, none⟩), .int .u64 most, .int .i64 m, .func (.func F) #[] #[.pointer (some ⟨z, 0, none⟩), .pointer (some ⟨p, 0, none⟩)]] W fun r W' => r = .returned (.tuple #[]) ∧
      ∃ (o : Option Addr) (c : Nat) (D : List μ), Ph b p z S T sz D.length (mk (.slice o D.length c)) (.slice o D.length c) (D.flatMap enc) w0 wL s4 e4 W' ∧ (e4 = 0 → D.map proj = L) ∧ D.length ≤ 1024 ∧ ∀ m ∈ D, Ex W' m := by
  obtain ⟨N, rfl⟩ := Int.eq_ofNat_of_zero_le hn0
  rw [Int.toNat_natCast] at hm
  have hs1 : s1.size ≤ maxLen := by have := upT_less s e m most; rw [hu] at this; exact Nat.le_trans this hs
  refine (upto3_any b F z p most m s s1 e e1 N W (LI f proj enc Ex b p z S T sz mk w0 wL N s1 e1) hs hP.mv.isT hu (by omega) hm0 (fun W' hM => LI.start hP hM hb hS hs1) (fun k s e W h => ?_) hF (fun k s W hk h => LI.step hlt hEx hst (by omega) k s W hk h)).mono ?_
  · obtain ⟨_, _, _, _, _, _, _, _, _, hP, _⟩ := h
    exact hP.mv.isT
  · rintro r W' ⟨rfl, k, s2, e2, hI, hk, hkn⟩
    obtain ⟨o, c, D, h1, h2, h3, h4⟩ := LI.fin hkp hI hk hkn hm
    exact ⟨rfl, o, c, D, h1, h2, by omega, h4⟩
end
theorem fit_of {x : M3} (h : P3Fit x.p) {W : World} (ho : POwn W x.m) : x.Fit where
  file := Nat.le_trans h.file (by unfold maxLen; decide)
  sml := ⟨Nat.le_trans h.name (by decide), Nat.le_trans h.ns (by decide), Nat.le_trans h.len (by decide), fun c hc => by
    have k := h.cs c hc
    exact ⟨Nat.le_trans k.name (by decide), Nat.le_trans k.image (by decide), Nat.le_trans k.lc (by decide), Nat.le_trans k.lp (by decide), Nat.le_trans k.le (by decide), fun s hs => Nat.le_trans (k.cmd s hs) (by decide), fun v hv => ⟨Nat.le_trans (k.env v hv).1 (by decide), Nat.le_trans (k.env v hv).2 (by decide)⟩⟩⟩
  room := fun m hm => own_le (ho.ins m hm).ports
theorem POwn.fresh {W W' : World} {q : PM} (h : POwn W q) (f : Fresh W W') : POwn W' q := ⟨own_fresh h.row f, fun m hm => ⟨own_fresh (h.ins m hm).cmd f, own_fresh (h.ins m hm).ports f, own_fresh (h.ins m hm).env f⟩⟩
theorem POwn.set {z i : Nat} {S : TypeId} {W : World} {q : PM} {cz : Array Value} (h : POwn W q) (hz : W.heap[z]? = some (.cells cz S)) (h1 : 9 ≠ S) (h2 : 97 ≠ S) (h3 : 98 ≠ S) (h4 : 94 ≠ S) (u : Value) : POwn (W.setCell ⟨z, i, none⟩ u) q :=
  ⟨own_type h.row hz h4 i u, fun m hm => (h.ins m hm).set hz h1 h2 h3 u⟩
set_option maxHeartbeats 8000000 in
theorem decode3_any (b : ByteArray) (w : World) (hT : Tabs w) (hb : b.size ≤ maxLen) : Calls Tryz.prog 19 #[.string b] w (DecIs3 b w) := by
  obtain ⟨s1, s2, s3, e1, e2, e3, q, n, L, hD⟩ := dec3T_ex b
  obtain ⟨⟨hq0, hq1⟩, hn0, hn1⟩ := hD.vals
  have HEQ : Hid (dec3 b = if endT s3 e3 ≠ 0 then (endT s3 e3, 0, []) else if chk3 L ≠ 0 then (chk3 L, 0, []) else (0, q, L)) := dec3_eq hD
  have HTH := Lib.hid hD
  have HLE := Lib.hid hD.le
  have HFT : Hid (∀ p ∈ L, P3Fit p) := hD.fit.1
  have HT := Lib.hid hT
  clear hD hT
  unfold DecIs3
  generalize dec3 b = R at *
  have HW : ∀ o1 o2 o3 : Obj, ((w.alloc o1).alloc o2).alloc o3 = ((w.alloc o1).alloc o2).alloc o3 ∧ (((w.alloc o1).alloc o2).alloc o3).heap[w.heap.size]? = some o1 ∧ (((w.alloc o1).alloc o2).alloc o3).heap[w.heap.size + 1]? = some o2 ∧ (((w.alloc o1).alloc o2).alloc o3).heap[w.heap.size + 2]? = some o3 := fun o1 o2 o3 => by
    have h2 := at_new (w.alloc o1) o2
    have h3 := at_new ((w.alloc o1).alloc o2) o3
    rw [World.size_alloc] at h2
    rw [World.size_alloc, World.size_alloc] at h3
    exact ⟨rfl, at_alloc (at_alloc (at_new w o1)), at_alloc h2, h3⟩
  obtain ⟨_, hA, ht0, hp0⟩ := HW (.cells #[.int .u64 0, .slice none 0 0] 25) (.cells #[.string b, .int .i64 0] 106) (.cells #[.pointer (some ⟨w.heap.size + 1, 0, none⟩)] 102)
  have HF0 := Lib.hid ((((Fresh.refl w).alloc (.cells #[.int .u64 0, .slice none 0 0] 25)).alloc (.cells #[.string b, .int .i64 0] 106)).alloc (.cells #[.pointer (some ⟨w.heap.size + 1, 0, none⟩)] 102))
  have HA := Lib.hid hA
  have HT0 : Hid (atT _ (w.heap.size + 1) b 0) := ht0
  have HP0 := Lib.hid hp0
  have q1 : World.cell? _ ⟨w.heap.size + 2, 0, none⟩ = some (.pointer (some ⟨w.heap.size + 1, 0, none⟩)) := cell_of_at hp0 rfl
  have HSZ : Hid (w.heap.size + 2 < ((((w.alloc (.cells #[.int .u64 0, .slice none 0 0] 25)).alloc (.cells #[.string b, .int .i64 0] 106)).alloc (.cells #[.pointer (some ⟨w.heap.size + 1, 0, none⟩)] 102))).heap.size) := by rw [Hid]; simp
  clear HW hA ht0 hp0
  go_enter Tryz.func19, Tryz.ntmps19
  go_wp2_with (fail)
  generalize ((w.alloc (.cells #[.int .u64 0, .slice none 0 0] 25)).alloc (.cells #[.string b, .int .i64 0] 106)).alloc (.cells #[.pointer (some ⟨w.heap.size + 1, 0, none⟩)] 102) = W0 at *
  obtain ⟨r, hr⟩ : ∃ r, r = w.heap.size := ⟨_, rfl⟩
  have HRW := Lib.hid hr
  rw [← hr] at HA HT0 HP0 q1 HSZ ⊢
  clear hr
  refine (take_at _ hb HT0.out HTH.out.h1).mono ?_
  rintro rr w1 ⟨rfl, hm1⟩
  have hbl : r + 1 < W0.heap.size := by have := HSZ.out; omega
  have HM2 := Lib.hid (hm1.fresh (atT_lt hm1.isT) ((Fresh.refl w1).alloc (.cells #[.int .u64 q, .slice none 0 0] 25)))
  have HP2 := Lib.hid (at_alloc (p := .cells #[.int .u64 q, .slice none 0 0] 25) (hm1.at HP0.out (by omega)))
  have HR2 := Lib.hid (at_alloc (p := .cells #[.int .u64 q, .slice none 0 0] 25) (hm1.at HA.out (by omega)))
  have HZ2 := Lib.hid (at_new w1 (.cells #[.int .u64 q, .slice none 0 0] 25))
  have hzw : W0.heap.size ≤ w1.heap.size := hm1.size
  have q2 : World.cell? _ ⟨r + 2, 0, none⟩ = some (.pointer (some ⟨r + 1, 0, none⟩)) := cell_of_at HP2.out rfl
  obtain ⟨z, hz⟩ : ∃ z, z = w1.heap.size := ⟨_, rfl⟩
  rw [← hz] at HZ2 hzw
  have hrz : r ≠ z := by omega
  have HC := Lib.hid (upto_lay pod3_keeps pod3_less (proj := M3.p) (enc := M3.cells) (Ex := fun W x => POwn W x.m) (mk := fun v => #[.int .u64 q, v]) (wL := w1.alloc (.cells #[.int .u64 q, .slice none 0 0] 25)) (fun _ _ _ _ hz h f => h.fr f hz (by decide) (by decide) (by decide) (by decide) (by decide) (by decide) (by decide) (by decide)) (dec_step (r + 1) (r + 2) z q W0 hbl hzw) (fun _ => by kernel_rfl) (Nat.le_trans HLE.out.1 hb) ⟨HM2.out, HP2.out, HZ2.out, World.ownsRow_nil _ _ _ _, .refl _ _ _⟩ hbl (by decide) HTH.out.h2 hn0 hn1 (by decide) HTH.out.h3)
  clear hm1 q1 HP0 HA HT0 HM2 HP2 HZ2
  go_wp2_with (fail)
  rw [← hz]
  clear hz
  refine HC.out.mono ?_
  rintro rr W3 ⟨rfl, o, c, D, hP, hpd, hlD, hC⟩
  have HFR := Lib.hid (Moved.below HF0.out hP.mv (by have := HRW.out; omega))
  have HR3 := Lib.hid (hP.fr _ _ _ _ HR2.out (by decide) hrz (by decide))
  have HZ3 := Lib.hid hP.bx
  have HOW := Lib.hid hP.own
  have HPO := Lib.hid hC
  have HEN := Lib.hid (tend_any (r + 1) s3 e3 _ hP.mv.isT)
  have HPF : Hid (endT s3 e3 = 0 → pods3 D = L) := fun h => by
    have h0 : e3 = 0 := by
      unfold endT at h
      split at h
      · simp at h
      · exact h
    exact hpd h0
  have HROW : Hid (Row3 W3 o D) := ⟨RowAt.owns hP.own, fun m hm => (hC m hm).at⟩
  have q3 : World.cell? _ ⟨r + 2, 0, none⟩ = some (.pointer (some ⟨r + 1, 0, none⟩)) := cell_of_at hP.pt rfl
  have HTB := Lib.hid (HT.out.move HFR.out)
  clear hP hpd hC HC q2 HR2
  generalize endT s3 e3 = E at *
  have hrw : w.heap.size ≤ r := by have := HRW.out; omega
  by_cases hE : E = 0
  case neg =>
    have HR : Hid (R = (E, 0, [])) := by rw [Hid, HEQ.out, if_pos hE]
    have e0 : (E != 0) = true := by simpa using hE
    clear HEQ hE HPF
    go_wp2_with (fail)
    refine HEN.out.mono ?_
    rintro rr w4 ⟨rfl, rfl⟩
    obtain ⟨g0, g1, qf⟩ := st3_box HR3.out
    have f0 := qf 0
    have f1 := qf 1
    clear qf
    go_wp2
    refine bodyPost_ret (v := .tuple #[st3 0 none 0 0, .int .i64 E]) (by simp [results, Tryz.results19, go_sem, st3, *]) rfl ⟨none, 0, [], ?_, ?_, Row3.nil _ _, ?_⟩
    · rw [HR.out]; rfl
    · rw [HR.out]; rfl
    · exact (HFR.out.setCell (p := ⟨r, 0, none⟩) hrw _).setCell (p := ⟨r, 1, none⟩) hrw _
  have HPL := Lib.hid (HPF.out hE)
  have HR1 : Hid (R = if chk3 L ≠ 0 then (chk3 L, 0, []) else (0, q, L)) := by rw [Hid, HEQ.out, if_neg (by simpa using hE)]
  subst hE
  have HCK : Hid (∀ W, Fresh W3 W → Calls Tryz.prog 11 #[.agg #[.int .u64 q, .slice o D.length c]] W fun e w' => e = .returned (.int .i64 (chk3 L)) ∧ Fresh W w') := fun W f => by
    have := check3_any q o D c W (HTB.out.move f) (HROW.out.move f) (fun x hx => fit_of (HFT.out _ (by rw [← HPL.out]; exact pods3_mem hx)) (HPO.out x hx)) (by omega)
    rw [HPL.out] at this
    exact this
  clear HEQ HPF
  generalize hC : chk3 L = C at *
  clear hC
  obtain ⟨d0, d1, _⟩ := st3_box HZ3.out
  by_cases hC : C = 0
  case neg =>
    have HR : Hid (R = (C, 0, [])) := by rw [Hid, HR1.out, if_pos hC]
    have e0 : (C != 0) = true := by simpa using hC
    clear HR1 hC
    go_wp2_with (fail)
    refine HEN.out.mono ?_
    rintro rr w4 ⟨rfl, rfl⟩
    go_wp2_with (fail)
    refine (HCK.out _ (.refl _)).mono ?_
    rintro rr w5 ⟨rfl, hf⟩
    obtain ⟨g0, g1, qf⟩ := st3_box (hf.at HR3.out)
    have f0 := qf 0
    have f1 := qf 1
    have HF5 := Lib.hid (HFR.out.trans hf)
    clear qf hf d0 d1
    go_wp2
    refine bodyPost_ret (v := .tuple #[st3 0 none 0 0, .int .i64 C]) (by simp [results, Tryz.results19, go_sem, st3, *]) rfl ⟨none, 0, [], ?_, ?_, Row3.nil _ _, ?_⟩
    · rw [HR.out]; rfl
    · rw [HR.out]; rfl
    · exact (HF5.out.setCell (p := ⟨r, 0, none⟩) hrw _).setCell (p := ⟨r, 1, none⟩) hrw _
  have HR : Hid (R = (0, q, L)) := by rw [Hid, HR1.out, if_neg (by simpa using hC)]
  subst hC
  clear HR1
  go_wp2_with (fail)
  refine HEN.out.mono ?_
  rintro rr w4 ⟨rfl, rfl⟩
  go_wp2_with (fail)
  refine (HCK.out _ (.refl _)).mono ?_
  rintro rr w5 ⟨rfl, hf⟩
  have HR5 := Lib.hid (hf.at HR3.out)
  obtain ⟨g0, g1, qf⟩ := st3_box HR5.out
  clear d0 d1
  obtain ⟨d0, d1, _⟩ := st3_box (hf.at HZ3.out)
  have f0 := qf 0
  have f1 := qf 1
  have HF5 := Lib.hid (HFR.out.trans hf)
  have HOW5 := Lib.hid (own_fresh HOW.out hf)
  have HPO5 : Hid (∀ m ∈ D, POwn w5 m.m) := fun m hm => (HPO.out m hm).fresh hf
  clear qf hf
  go_wp2
  refine bodyPost_ret (v := .tuple #[st3 q o D.length c, .int .i64 0]) (by simp [results, Tryz.results19, go_sem, st3, *]) rfl ⟨o, c, D, ?_, ?_, ⟨?_, fun m hm => ?_⟩, ?_⟩
  · rw [HR.out]
  · rw [HR.out]; exact HPL.out
  · exact RowAt.owns (own_type (own_type HOW5.out HR5.out (by decide) 0 _) (at_set HR5.out 0 _) (by decide) 1 _)
  · exact (((HPO5.out m hm).set HR5.out (by decide) (by decide) (by decide) (by decide) _).set (at_set HR5.out 0 _) (by decide) (by decide) (by decide) (by decide) _).at
  · exact (HF5.out.setCell (p := ⟨r, 0, none⟩) hrw _).setCell (p := ⟨r, 1, none⟩) hrw _
end Go.Proofs.YtmomlgkpdoapoaaGreatDoor.K
namespace Go.Proofs.YtmomlgkpdoapoaaGreatDoor.K
open Go.ChangeShapes Go.WideShapes Go.ChangeAt Go.RowKit
set_option maxRecDepth 100000

/-- A builder in block b: these bytes. -/
def Bld (B b : Nat) (l : List UInt8) (w : World) : Prop := Lib.IsBuilder 68 5 B b (Lib.byteCells l) w
theorem infoB : (Tryz.prog.info? 68).map (·.size) = some 2 := by kernel_rfl
theorem copy_used (b : Nat) (w : World) (h0 : w.cell? ⟨b, 0, none⟩ = some (.pointer (some ⟨b, 0, none⟩))) :
    Calls Tryz.prog 97 #[.pointer (some ⟨b, 0, none⟩)] w fun e w' => e = .returned (.tuple #[]) ∧ w' = w := by
  obtain ⟨j, hj, hjs⟩ := Option.map_eq_some_iff.1 infoB
  have hne := Lib.run_neq_ptr_same (P := Tryz.prog) w ⟨b, 0, none⟩ Tryz.underlying65 hj
  clear hj hjs
  go_enter Tryz.func97, Tryz.ntmps97
  go_wp2
  go_end0
  exact ⟨rfl, rfl⟩
theorem liesB : liesAt Tryz.prog Tryz.prog.depth 68 (2 / Tryz.prog.cellsOf 68) 0 68 1 = true := by kernel_rfl
theorem copy_fresh (b : Nat) (w : World) (h0 : w.cell? ⟨b, 0, none⟩ = some (.pointer none)) (hsh : w.shape? b = some (68, 2)) (hfz : w.frozen? ⟨b, 0, none⟩ = false) :
    Calls Tryz.prog 97 #[.pointer (some ⟨b, 0, none⟩)] w fun e w' => e = .returned (.tuple #[]) ∧ w' = w.setCell ⟨b, 0, none⟩ (.pointer (some ⟨b, 0, none⟩)) := by
  obtain ⟨j, hj, hjs⟩ := Option.map_eq_some_iff.1 infoB
  have h1 := Lib.run_to_unsafe (P := Tryz.prog) w ⟨b, 0, none⟩ Tryz.underlying65 Tryz.underlying176 hj (by rw [hjs]; decide) hsh (Nat.zero_lt_succ 1)
  have h2 := Lib.run_from_unsafe (P := Tryz.prog) w ⟨b, 0, none⟩ Tryz.underlying176 Tryz.underlying65 hj hsh liesB
  have hne := fun W : World => Lib.run_neq_ptr_same (P := Tryz.prog) W ⟨b, 0, none⟩ Tryz.underlying65 hj
  clear hj hjs hsh
  go_enter Tryz.func97, Tryz.ntmps97
  go_wp2
  rw [run_callFunc_extern Tryz.func129 (by kernel_rfl) (by kernel_rfl) (by kernel_rfl) (e := Extern.AbiNoEscape.same) (by kernel_rfl)]
  rw [Lib.run_noEscape]
  simp only [Result.andThen]
  rw [Oper.upon_value]
  go_wp2
  go_end0
  exact ⟨rfl, rfl⟩
theorem copy_any (B b : Nat) (l : List UInt8) (w : World) (h : Bld B b l w) :
    Calls Tryz.prog 97 #[.pointer (some ⟨b, 0, none⟩)] w fun e w' => e = .returned (.tuple #[]) ∧ (Lib.BuilderAt 68 5 B b (.pointer (some ⟨b, 0, none⟩)) (Lib.byteCells l) w' ∧ Below B w w') := by
  rcases h with h | h
  · refine (copy_fresh b w h.cell0 h.shape h.frozen0).mono ?_
    rintro e w' ⟨rfl, rfl⟩
    exact ⟨rfl, h.used _, (Below.refl B w).setCell (p := ⟨b, 0, none⟩) h.1 _⟩
  · refine (copy_used b w h.cell0).mono ?_
    rintro e w' ⟨rfl, rfl⟩
    exact ⟨rfl, h, Below.refl B _⟩
theorem bytes_app (l m : List UInt8) : Lib.byteCells l ++ Lib.byteCells m = Lib.byteCells (l ++ m) := by simp [Lib.byteCells]
theorem bytes_len (l : List UInt8) : (Lib.byteCells l).length = l.length := Lib.byteCells_length l
theorem str_cells (s : ByteArray) : Lib.strCells s = Lib.byteCells s.data.toList := rfl
set_option maxHeartbeats 1000000 in
theorem write_any (B b : Nat) (l : List UInt8) (s : ByteArray) (w : World) (h : Bld B b l w) (hlen : l.length + s.size ≤ 140737488355328) (hBw : B ≤ w.heap.size) :
    Calls Tryz.prog 61 #[.pointer (some ⟨b, 0, none⟩), .string s] w fun e w' => e = .returned (.tuple #[.int .i64 s.size, .nilIface]) ∧ Bld B b (l ++ s.data.toList) w' ∧ Below B w w' := by
  obtain ⟨i0, hi, hz0, hz1, hz2⟩ := info_parts info5
  have HC := Lib.hid (copy_any B b l w h)
  have hl : (Lib.byteCells l).length = l.length := bytes_len l
  clear h
  go_enter Tryz.func61, Tryz.ntmps61
  go_wp2_with (fail)
  refine HC.out.mono ?_
  rintro e w1 ⟨rfl, h1, hb1⟩
  obtain ⟨hB, v, hbk, hown, hne⟩ := h1
  have c0 : w1.cell? ⟨b, 0, none⟩ = some (.pointer (some ⟨b, 0, none⟩)) := by rw [Lib.cell_of_heap hbk]; rfl
  have c1 : w1.cell? ⟨b, 1, none⟩ = some v := by rw [Lib.cell_of_heap hbk]; rfl
  have hsz := hb1.size
  go_wp2_with (at_builtin; refine Lib.wpList_append_own_string _ rfl _ _ 66 9 rfl B 5 i0 Tryz.underlying66 Tryz.underlying9 hi hz0 hz1 hz2 _ _ _ rfl hown s rfl ?c3 ?c4 ?c5 ?_)
  case c3 => unfold maxLen; omega
  case c4 => omega
  case c5 => omega
  intro v' w2 hown' hgrow _
  have hlt : b < w1.heap.size := lt_of_at hbk
  have hb2 : w2.heap[b]? = some (.cells #[.pointer (some ⟨b, 0, none⟩), v] 68 (0, 0)) := by
    rw [hgrow.block b hlt (fun e => hne e.symm)]
    exact hbk
  have d0 : w2.cell? ⟨b, 0, none⟩ = some (.pointer (some ⟨b, 0, none⟩)) := by rw [Lib.cell_of_heap hb2]; rfl
  have d1 : w2.cell? ⟨b, 1, none⟩ = some v := by rw [Lib.cell_of_heap hb2]; rfl
  have f1 : w2.frozen? ⟨b, 1, none⟩ = false := Lib.frozen_of_heap hb2 1
  obtain ⟨ao, n', cap, rfl⟩ : ∃ ao n' cap, v' = .slice ao n' cap := by
    rcases hown'.2 with ⟨hv, _⟩ | ⟨g, cap, cur, hv, _⟩
    · exact ⟨_, _, _, hv⟩
    · exact ⟨_, _, _, hv⟩
  go_wp2
  go_ret2
  refine ⟨rfl, .inr ?_, ?_⟩
  · refine Lib.BuilderAt.put (T := 68) (e := 5) hB hb2 (bs' := Lib.byteCells (l ++ s.data.toList)) ?_ (by decide)
    have := hown'
    rw [str_cells, bytes_app] at this
    rw [bytes_len, List.length_append]
    rw [← Lib.size_eq]
    exact this
  · exact (hb1.grown hgrow (by omega) (fun k hk => (hown.lt k hk).1)).setCell (p := ⟨b, 1, none⟩) hB _
theorem str_any (B b : Nat) (l : List UInt8) (w : World) (h : Bld B b l w) (hBw : B ≤ w.heap.size) :
    Calls Tryz.prog 29 #[.pointer (some ⟨b, 0, none⟩)] w fun e w' => e = .returned (.string ⟨l.toArray⟩) ∧ Below B w w' := Tryz.Builder_String_any B b l w h hBw
theorem bld_new (w : World) : Bld w.heap.size w.heap.size [] (w.alloc (.cells #[.pointer none, .slice none 0 0] 68)) := Lib.fresh_isBuilder _ _ w
/-- What is fresh in memory that isn't the builder's leaves it as it is. -/
theorem Bld.fresh {B b : Nat} {l : List UInt8} {w w' : World} (h : Bld B b l w) (f : Fresh w w') : Bld B b l w' := by
  have key : ∀ p, Lib.BuilderAt 68 5 B b p (Lib.byteCells l) w → Lib.BuilderAt 68 5 B b p (Lib.byteCells l) w' := fun p h => by
    obtain ⟨hB, v, hbk, hown, hne⟩ := h
    refine ⟨hB, v, f.at hbk, ?_, hne⟩
    refine World.ownsRow.kept (row := none) hown ⟨f.os, f.tape, f.output, f.size, fun k hk _ => f.block k hk⟩ ?_
    rcases h' : v.ownBlock with _ | g
    · exact .inl rfl
    · exact .inr (by simp)
  rcases h with h | h
  · exact .inl (key _ h)
  · exact .inr (key _ h)
end Go.Proofs.YtmomlgkpdoapoaaGreatDoor.K
namespace Go.Proofs.YtmomlgkpdoapoaaGreatDoor.K
open Go.ChangeShapes Go.WideShapes Go.ChangeAt Go.RowKit
set_option maxRecDepth 100000

/-- A writer in block b: these bytes. -/
def BldW (b : Nat) (l : List UInt8) (w : World) : Prop := Lib.IsBuilder 70 5 b b (Lib.byteCells l) w
theorem BldW.lt {b : Nat} {l : List UInt8} {w : World} (h : BldW b l w) : b < w.heap.size := by
  rcases h with h | h
  · exact h.lt
  · exact h.lt
theorem liesW : liesAt Tryz.prog Tryz.prog.depth 70 (2 / Tryz.prog.cellsOf 70) 0 68 1 = true := by kernel_rfl
theorem copyW_fresh (b : Nat) (w : World) (h0 : w.cell? ⟨b, 0, none⟩ = some (.pointer none)) (hsh : w.shape? b = some (70, 2)) (hfz : w.frozen? ⟨b, 0, none⟩ = false) :
    Calls Tryz.prog 97 #[.pointer (some ⟨b, 0, none⟩)] w fun e w' => e = .returned (.tuple #[]) ∧ w' = w.setCell ⟨b, 0, none⟩ (.pointer (some ⟨b, 0, none⟩)) := by
  obtain ⟨j, hj, hjs⟩ := Option.map_eq_some_iff.1 infoB
  have h1 := Lib.run_to_unsafe (P := Tryz.prog) w ⟨b, 0, none⟩ Tryz.underlying65 Tryz.underlying176 hj (by rw [hjs]; decide) hsh (Nat.zero_lt_succ 1)
  have h2 := Lib.run_from_unsafe (P := Tryz.prog) w ⟨b, 0, none⟩ Tryz.underlying176 Tryz.underlying65 hj hsh liesW
  have hne := fun W : World => Lib.run_neq_ptr_same (P := Tryz.prog) W ⟨b, 0, none⟩ Tryz.underlying65 hj
  clear hj hjs hsh
  go_enter Tryz.func97, Tryz.ntmps97
  go_wp2
  rw [run_callFunc_extern Tryz.func129 (by kernel_rfl) (by kernel_rfl) (by kernel_rfl) (e := Extern.AbiNoEscape.same) (by kernel_rfl)]
  rw [Lib.run_noEscape]
  simp only [Result.andThen]
  rw [Oper.upon_value]
  go_wp2
  go_end0
  exact ⟨rfl, rfl⟩
/-- Blocks that are no writer's stay. -/
def KeepsW (w w' : World) : Prop := ∀ (k : Nat) (cs : Array Value) (t : TypeId), w.heap[k]? = some (Obj.cells cs t) → t ≠ 5 → t ≠ 70 → w'.heap[k]? = some (Obj.cells cs t)
theorem KeepsW.refl (w : World) : KeepsW w w := fun _ _ _ h _ _ => h
theorem KeepsW.trans {a b c : World} (h : KeepsW a b) (k : KeepsW b c) : KeepsW a c := fun i cs t hi n1 n2 => k i cs t (h i cs t hi n1 n2) n1 n2
/-- What a writer in block b does to memory. -/
structure Wrt (b : Nat) (w w' : World) : Prop where
  below : Below b w w'
  keeps : KeepsW w w'
theorem Wrt.refl (b : Nat) (w : World) : Wrt b w w := ⟨.refl _ _, .refl _⟩
theorem Wrt.trans {b : Nat} {w1 w2 w3 : World} (h : Wrt b w1 w2) (k : Wrt b w2 w3) : Wrt b w1 w3 := ⟨h.below.trans k.below, h.keeps.trans k.keeps⟩
theorem Wrt.of {b : Nat} {w w' : World} (h : Fresh w w') (hb : b ≤ w.heap.size) : Wrt b w w' := ⟨Below.mono h hb, fun _ _ _ hk _ _ => h.at hk⟩
theorem copyW_any (b : Nat) (l : List UInt8) (w : World) (h : BldW b l w) :
    Calls Tryz.prog 97 #[.pointer (some ⟨b, 0, none⟩)] w fun e w' => e = .returned (.tuple #[]) ∧ (Lib.BuilderAt 70 5 b b (.pointer (some ⟨b, 0, none⟩)) (Lib.byteCells l) w' ∧ Wrt b w w') := by
  rcases h with h | h
  · obtain ⟨hB, v, hbk, _⟩ := id h
    refine (copyW_fresh b w h.cell0 h.shape h.frozen0).mono ?_
    rintro e w' ⟨rfl, rfl⟩
    refine ⟨rfl, h.used _, (Below.refl b w).setCell (p := ⟨b, 0, none⟩) h.1 _, fun k cs t hk _ h2 => at_off hk (fun e => ?_) _⟩
    subst e
    rw [hbk] at hk
    cases hk
    exact h2 rfl
  · refine (copy_used b w h.cell0).mono ?_
    rintro e w' ⟨rfl, rfl⟩
    exact ⟨rfl, h, .refl _ _⟩
set_option maxHeartbeats 1000000 in
theorem writeW_any (b : Nat) (l : List UInt8) (s : ByteArray) (w : World) (h : BldW b l w) (hlen : l.length + s.size ≤ 140737488355328) :
    Calls Tryz.prog 61 #[.pointer (some ⟨b, 0, none⟩), .string s] w fun e w' => e = .returned (.tuple #[.int .i64 s.size, .nilIface]) ∧ BldW b (l ++ s.data.toList) w' ∧ Wrt b w w' := by
  have hBw : b ≤ w.heap.size := Nat.le_of_lt h.lt
  obtain ⟨i0, hi, hz0, hz1, hz2⟩ := info_parts info5
  have HC := Lib.hid (copyW_any b l w h)
  have hl : (Lib.byteCells l).length = l.length := bytes_len l
  clear h
  go_enter Tryz.func61, Tryz.ntmps61
  go_wp2_with (fail)
  refine HC.out.mono ?_
  rintro e w1 ⟨rfl, h1, hb1, hk1⟩
  have HK1 := Lib.hid hk1
  obtain ⟨hB, v, hbk, hown, hne⟩ := h1
  have c0 : w1.cell? ⟨b, 0, none⟩ = some (.pointer (some ⟨b, 0, none⟩)) := by rw [Lib.cell_of_heap hbk]; rfl
  have c1 : w1.cell? ⟨b, 1, none⟩ = some v := by rw [Lib.cell_of_heap hbk]; rfl
  have hsz := hb1.size
  clear hk1
  go_wp2_with (at_builtin; refine Lib.wpList_append_own_string _ rfl _ _ 66 9 rfl b 5 i0 Tryz.underlying66 Tryz.underlying9 hi hz0 hz1 hz2 _ _ _ rfl hown s rfl ?c3 ?c4 ?c5 ?_)
  case c3 => unfold maxLen; omega
  case c4 => omega
  case c5 => omega
  intro v' w2 hown' hgrow _
  have hlt : b < w1.heap.size := lt_of_at hbk
  have hb2 : w2.heap[b]? = some (.cells #[.pointer (some ⟨b, 0, none⟩), v] 70 (0, 0)) := by
    rw [hgrow.block b hlt (fun e => hne e.symm)]
    exact hbk
  have HK2 : Hid (∀ u, KeepsW w (w2.setCell ⟨b, 1, none⟩ u)) := fun u k cs t hk n1 n2 => by
    have hk := HK1.out k cs t hk n1 n2
    have hkb : k ≠ b := fun e => by
      subst e
      rw [hbk] at hk
      cases hk
      exact n2 rfl
    refine at_off ((hgrow.block k (lt_of_at hk) (fun e => ?_)).trans hk) hkb _
    rcases hown.2 with ⟨rfl, _⟩ | ⟨g, cap, cur, rfl, _, hg, _⟩
    · cases e
    · have : k = g := by simpa [Value.ownBlock] using e
      subst this
      rw [hg] at hk
      cases hk
      exact n1 rfl
  have d0 : w2.cell? ⟨b, 0, none⟩ = some (.pointer (some ⟨b, 0, none⟩)) := by rw [Lib.cell_of_heap hb2]; rfl
  have d1 : w2.cell? ⟨b, 1, none⟩ = some v := by rw [Lib.cell_of_heap hb2]; rfl
  have f1 : w2.frozen? ⟨b, 1, none⟩ = false := Lib.frozen_of_heap hb2 1
  obtain ⟨ao, n', cap, rfl⟩ : ∃ ao n' cap, v' = .slice ao n' cap := by
    rcases hown'.2 with ⟨hv, _⟩ | ⟨g, cap, cur, hv, _⟩
    · exact ⟨_, _, _, hv⟩
    · exact ⟨_, _, _, hv⟩
  go_wp2
  go_ret2
  refine ⟨rfl, .inr ?_, ⟨?_, HK2.out _⟩⟩
  · refine Lib.BuilderAt.put (T := 70) (e := 5) hB hb2 (bs' := Lib.byteCells (l ++ s.data.toList)) ?_ (by decide)
    have := hown'
    rw [str_cells, bytes_app] at this
    rw [bytes_len, List.length_append]
    rw [← Lib.size_eq]
    exact this
  · exact (hb1.grown hgrow (by omega) (fun k hk => (hown.lt k hk).1)).setCell (p := ⟨b, 1, none⟩) hB _
theorem bldW_new (w : World) : BldW w.heap.size [] (w.alloc (.cells #[.pointer none, .slice none 0 0] 70)) := Lib.fresh_isBuilder _ _ w
/-- What is fresh in memory that isn't the writer's leaves it as it is. -/
theorem BldW.fresh {b : Nat} {l : List UInt8} {w w' : World} (h : BldW b l w) (f : Fresh w w') : BldW b l w' := by
  have key : ∀ p, Lib.BuilderAt 70 5 b b p (Lib.byteCells l) w → Lib.BuilderAt 70 5 b b p (Lib.byteCells l) w' := fun p h => by
    obtain ⟨hB, v, hbk, hown, hne⟩ := h
    refine ⟨hB, v, f.at hbk, ?_, hne⟩
    refine World.ownsRow.kept (row := none) hown ⟨f.os, f.tape, f.output, f.size, fun k hk _ => f.block k hk⟩ ?_
    rcases h' : v.ownBlock with _ | g
    · exact .inl rfl
    · exact .inr (by simp)
  rcases h with h | h
  · exact .inl (key _ h)
  · exact .inr (key _ h)
theorem cellsByte : Tryz.prog.cellsOf 5 = 1 := by kernel_rfl
set_option maxHeartbeats 1000000 in
theorem strW_any (b : Nat) (l : List UInt8) (w : World) (h : BldW b l w) (h0 : l ≠ []) :
    Calls Tryz.prog 29 #[.pointer (some ⟨b, 0, none⟩)] w fun e w' => e = .returned (.string (tx l)) ∧ Below b w w' := by
  obtain ⟨p, hB, v, hbk, hown, hne⟩ : ∃ p, Lib.BuilderAt 70 5 b b p (Lib.byteCells l) w := by
    rcases h with h | h
    · exact ⟨_, h⟩
    · exact ⟨_, h⟩
  have hl0 : l.length ≠ 0 := by simpa using h0
  rw [Lib.byteCells_length] at hown
  obtain ⟨g, cap, cur, rfl, hbg, hg, hnc, hcm, hcs, htake⟩ : ∃ g cap cur, v = .slice (some ⟨g, 0, none⟩) l.length cap ∧ b ≤ g ∧ w.heap[g]? = some (.cells cur 5 (0, 0)) ∧ l.length ≤ cap ∧ cap ≤ maxLen ∧ cur.size = cap * 1 ∧ cur.toList.take (l.length * 1) = Lib.byteCells l := by
    rcases hown.2 with ⟨_, hz⟩ | ⟨g, cap, cur, hv, r⟩
    · exact absurd hz hl0
    · exact ⟨g, cap, cur, hv, r⟩
  have c1 : w.drew.cell? ⟨b, 1, none⟩ = some (.slice (some ⟨g, 0, none⟩) l.length cap) := by
    have : w.drew.heap[b]? = some (.cells #[p, .slice (some ⟨g, 0, none⟩) l.length cap] 70 (0, 0)) := hbk
    rw [Lib.cell_of_heap this]; rfl
  have hSD : (Builtin.unsafeSliceData_ #[66] 134 #[.slice (some ⟨g, 0, none⟩) l.length cap]).run Tryz.prog w.drew = .ok (.pointer (some ⟨g, 0, none⟩)) w.drew :=
    Lib.run_unsafeSliceData_row _ _ _ _ _ _ (by omega)
  have hUS : (Builtin.unsafeString_ #[134, 3] 9 #[.pointer (some ⟨g, 0, none⟩), .int .i64 l.length]).run Tryz.prog w.drew = .ok (.string ⟨l.toArray⟩) (w.drew.freeze ⟨g, 0, none⟩ l.length) := by
    refine Lib.run_unsafeString_row w.drew 134 3 9 5 Tryz.underlying134 cellsByte g cur.size (by have hg' : w.drew.heap[g]? = some (.cells cur 5 (0, 0)) := hg; simp [World.shape?, hg']) l h0 (by omega) (by unfold maxLen at hcm; omega) ?_
    intro j x hx
    have := hown.cells (g := g) rfl j (.int .u8 x.toNat) (by simp [Lib.byteCells, hx])
    exact this
  clear hown htake hcs hnc hcm h0 hl0 h
  have mixed : Tryz.prog.follows .mixedOrders = true := by kernel_rfl
  go_enter Tryz.func29, Tryz.ntmps29
  go_wp2
  go_region_o
  all_goals (go_wp2; go_ret; exact ⟨rfl, Lib.below_freeze (Below.drew (Below.refl b w)) (p := ⟨g, 0, none⟩) hbg _⟩)
end Go.Proofs.YtmomlgkpdoapoaaGreatDoor.K
namespace Go.Proofs.YtmomlgkpdoapoaaGreatDoor.K
open Go.ChangeShapes Go.WideShapes Go.ChangeAt Go.RowKit
set_option maxRecDepth 100000

theorem name_tx (s : ByteArray) (w : World) (hs : s.size ≤ maxLen) : Calls Tryz.prog 83 #[.string s] w fun e w' => e = .returned (.bool (nameB s.data.toList)) ∧ Fresh w w' := by
  have := name_any s.data.toList w (by rw [← Lib.size_eq]; exact hs)
  rwa [tx_of] at this
set_option maxHeartbeats 2000000 in
theorem fault_any (p : P1) (ahead : ByteArray) (w : World) (hp : p.Fit maxLen) :
    Calls Tryz.prog 124 #[p.val, .string ahead] w fun e w' => e = .returned (.int .i64 (fE p ahead)) ∧ Fresh w w' := by
  obtain ⟨file, name, image, r⟩ := p
  have HFI := Lib.hid (fun W => file_any file W hp.file)
  have HNM := Lib.hid (fun W => name_tx name W hp.name)
  have HIM := Lib.hid (fun W => image_any image W hp.image)
  have HE : Hid (fE ⟨file, name, image, r⟩ ahead = if fileB file = true ∧ nameB name.data.toList = true then (if imgB image.data.toList = true ∧ leS file ahead = false then (if 2 < r then 7 else 0) else 6) else 13) := rfl
  have HLE : Hid (leS file ahead = (Op.bytesLess file.toList ahead.toList || file.toList == ahead.toList)) := rfl
  have hr0 : 0 ≤ r := hp.r0
  have hr1 : r ≤ 255 := hp.r1
  have HA := Lib.hid (at_new w (.cells #[.string file, .string name, .string image, .int .u8 r] 152))
  have HF0 := Lib.hid ((Fresh.refl w).alloc (.cells #[.string file, .string name, .string image, .int .u8 r] 152))
  dsimp only [P1.val]
  clear hp
  generalize fE ⟨file, name, image, r⟩ ahead = E at *
  generalize leS file ahead = L at *
  generalize hx1 : Op.bytesLess file.toList ahead.toList = x1 at *
  generalize hx2 : (file.toList == ahead.toList) = x2 at *
  cases hf : fileB file with
  | false =>
    rw [hf] at HFI
    have HR : Hid (E = 13) := by rw [Hid, HE.out, if_neg (by rw [hf]; simp)]
    clear HE hf hx1 hx2
    go_enter Tryz.func124, Tryz.ntmps124
    go_wp2_with (fail)
    refine (HFI.out _).mono ?_
    rintro e w1 ⟨rfl, rfl⟩
    go_wp2
    go_ret
    exact ⟨ret_int HR.out.symm, HF0.out⟩
  | true =>
    rw [hf] at HFI
    cases hn : nameB name.data.toList with
    | false =>
      rw [hn] at HNM
      have HR : Hid (E = 13) := by rw [Hid, HE.out, if_neg (by rw [hn]; simp)]
      clear HE hf hn hx1 hx2
      go_enter Tryz.func124, Tryz.ntmps124
      go_wp2_with (fail)
      refine (HFI.out _).mono ?_
      rintro e w1 ⟨rfl, rfl⟩
      go_wp2_with (fail)
      refine (HNM.out _).mono ?_
      rintro e w1 ⟨rfl, hf⟩
      have HF := Lib.hid (HF0.out.trans hf)
      clear hf
      go_wp2
      go_ret
      exact ⟨ret_int HR.out.symm, HF.out⟩
    | true =>
      rw [hn] at HNM
      have HE2 : Hid (E = if imgB image.data.toList = true ∧ L = false then (if 2 < r then 7 else 0) else 6) := by rw [Hid, HE.out, if_pos ⟨hf, hn⟩]
      clear HE hf hn
      go_enter Tryz.func124, Tryz.ntmps124
      go_wp2_with (fail)
      refine (HFI.out _).mono ?_
      rintro e w1 ⟨rfl, rfl⟩
      go_wp2_with (fail)
      refine (HNM.out _).mono ?_
      rintro e w1 ⟨rfl, hf⟩
      obtain ⟨⟨q0, q1, q2, q3⟩, _⟩ := p1_box (p := ⟨file, name, image, r⟩) (hf.at HA.out)
      have HF := Lib.hid (HF0.out.trans hf)
      clear hf HA HF0
      obtain ⟨b, hb⟩ : ∃ b, b = w.heap.size := ⟨_, rfl⟩
      rw [← hb] at q0 q1 q2 q3 ⊢
      clear hb
      go_wp2_with (fail)
      refine (HIM.out _).mono ?_
      rintro e w2 ⟨rfl, rfl⟩
      cases hi : imgB image.data.toList with
      | false =>
        have HR : Hid (E = 6) := by rw [Hid, HE2.out, if_neg (by rw [hi]; simp)]
        clear HE2 hi
        go_wp2
        go_ret
        exact ⟨ret_int HR.out.symm, HF.out⟩
      | true =>
        have HE3 : Hid (E = if L = false then (if 2 < r then 7 else 0) else 6) := by rw [Hid, HE2.out]; simp only [hi, true_and]
        clear HE2 hi
        cases hl : (x1 || x2) with
        | true =>
          have HR : Hid (E = 6) := by rw [Hid, HE3.out, HLE.out, hl]; simp
          clear HE3 HLE
          cases x1 <;> cases x2 <;> simp at hl <;> (go_wp2; go_ret; exact ⟨ret_int HR.out.symm, HF.out⟩)
        | false =>
          have HE4 : Hid (E = if 2 < r then 7 else 0) := by rw [Hid, HE3.out, HLE.out, hl]; simp
          clear HE3 HLE
          simp only [Bool.or_eq_false_iff] at hl
          obtain ⟨rfl, rfl⟩ := hl
          by_cases h2 : 2 < r
          · have HR : Hid (E = 7) := by rw [Hid, HE4.out, if_pos h2]
            clear HE4
            go_wp2
            go_ret
            exact ⟨ret_int HR.out.symm, HF.out⟩
          · have HR : Hid (E = 0) := by rw [Hid, HE4.out, if_neg h2]
            clear HE4
            go_wp2
            go_ret
            exact ⟨ret_int HR.out.symm, HF.out⟩
set_option maxHeartbeats 2000000 in
theorem check_any (seq : Int) (a : Option Addr) (l : List P1) (c : Nat) (w : World) (h : RowAt w a (p1s l)) (hf : ∀ p ∈ l, p.Fit maxLen) :
    Calls Tryz.prog 88 #[st1 seq a l.length c] w fun e w' => e = .returned (.int .i64 (chk1 l)) ∧ Fresh w w' := by
  have HROW := Lib.hid h
  have HFT := Lib.hid hf
  have HC : Hid (chk1 l = if 1024 < l.length then 18 else chkF (aheadOf l 0) (l.drop 0)) := rfl
  have HA := Lib.hid (at_new w (.cells #[.int .u32 seq, .slice a l.length c] 125))
  have HF0 := Lib.hid ((Fresh.refl w).alloc (.cells #[.int .u32 seq, .slice a l.length c] 125))
  dsimp only [st1]
  clear h hf
  generalize chk1 l = E at *
  by_cases hm : 1024 < l.length
  · have HR : Hid (E = 18) := by rw [Hid, HC.out, if_pos hm]
    clear HC
    go_enter Tryz.func88, Tryz.ntmps88
    go_wp2
    all_goals try (exfalso; omega)
    go_ret
    exact ⟨ret_int HR.out.symm, HF0.out⟩
  · have HC2 : Hid (E = chkF (aheadOf l 0) (l.drop 0)) := by rw [Hid, HC.out, if_neg hm]
    clear HC
    go_enter Tryz.func88, Tryz.ntmps88
    go_wp2
    all_goals try (exfalso; omega)
    generalize w.alloc (.cells #[.int .u32 seq, .slice a l.length c] 125) = W0 at *
    go_loopw [3, 14] (fun a3 a14 wr => ∃ (k : Nat), a14 = .int .i64 (k : Int) ∧ a3 = .string (aheadOf l k) ∧ k ≤ l.length ∧ Hid (E = chkF (aheadOf l k) (l.drop k)) ∧ Hid (Fresh W0 wr)) (fun _ a14 _ => l.length - (intOf a14).toNat)
    case atStart => exact ⟨0, rfl, rfl, Nat.zero_le _, HC2.out, Fresh.refl _⟩
    case round =>
      obtain ⟨k, rfl, rfl, hk, HE, HF⟩ := hrel
      by_cases hlt : k < l.length
      · obtain ⟨g, o1, rfl, hc⟩ := p1_form ((HROW.out.move HF0.out).move HF.out) hlt
        obtain ⟨c0, c1, c2, c3⟩ := hc k hlt
        have HFA := Lib.hid (fun W => fault_any l[k] (aheadOf l k) W (HFT.out _ (List.getElem_mem hlt)))
        have HSTEP : Hid (E = if fE l[k] (aheadOf l k) = 0 then chkF l[k].file (l.drop (k + 1)) else fE l[k] (aheadOf l k)) := HE.out.trans (chkF_drop hlt _)
        have HAH := Lib.hid (aheadOf_succ l k hlt)
        clear hc
        generalize fE l[k] (aheadOf l k) = F at *
        generalize aheadOf l k = ah at *
        generalize l[k] = p at *
        obtain ⟨file, name, image, r⟩ := p
        dsimp only [P1.val] at *
        have HP := Lib.hid (at_new wr (.cells #[.string file, .string name, .string image, .int .u8 r] 152))
        have HF1 := Lib.hid ((Fresh.refl wr).alloc (.cells #[.string file, .string name, .string image, .int .u8 r] 152))
        by_cases hF : F = 0
        · subst hF
          have HN : Hid (E = chkF file (l.drop (k + 1))) := by rw [Hid, HSTEP.out, if_pos rfl]
          clear HSTEP
          go_wp2_with (fail)
          all_goals try (exfalso; omega)
          refine (HFA.out _).mono ?_
          rintro e w1 ⟨rfl, hf⟩
          obtain ⟨⟨q0, q1, q2, q3⟩, _⟩ := p1_box (p := ⟨file, name, image, r⟩) (hf.at HP.out)
          have HF2 := Lib.hid ((HF.out.trans HF1.out).trans hf)
          clear hf
          go_wp2
          go_roundw
          case rel => exact ⟨k + 1, by simp, by rw [HAH.out], by omega, by rw [HAH.out]; exact HN.out, HF2.out⟩
          case measure => simp [intOf]; omega
        · have HR : Hid (E = F) := by rw [Hid, HSTEP.out, if_neg hF]
          have e0 : (F == 0) = false := by rw [beq_eq_false_iff_ne]; exact hF
          clear HSTEP
          go_wp2_with (fail)
          all_goals try (exfalso; omega)
          refine (HFA.out _).mono ?_
          rintro e w1 ⟨rfl, hf⟩
          have HF2 := Lib.hid ((HF.out.trans HF1.out).trans hf)
          clear hf
          go_wp2
          all_goals try (exfalso; omega)
          go_ret
          exact ⟨ret_int HR.out.symm, HF0.out.trans HF2.out⟩
      · obtain rfl : k = l.length := by omega
        have HR : Hid (E = 0) := by rw [Hid, HE.out, List.drop_of_length_le (Nat.le_refl _)]; rfl
        go_wp2
        all_goals try (exfalso; omega)
        go_ret
        exact ⟨ret_int HR.out.symm, HF0.out.trans HF.out⟩
end Go.Proofs.YtmomlgkpdoapoaaGreatDoor.K
namespace Go.Proofs.YtmomlgkpdoapoaaGreatDoor.K
open Go.ChangeShapes Go.WideShapes Go.ChangeAt Go.RowKit
set_option maxRecDepth 100000

theorem text1_any (s : ByteArray) (w : World) (h : s.size ≤ 4096) : Calls Tryz.prog 125 #[.string s] w fun e w' => e = .returned (.string (tx (txtL s))) ∧ Fresh w w' := by
  have HT := Lib.hid (fun W => text_ok s W h)
  rw [txt_tx] at HT
  go_enter Tryz.func125, Tryz.ntmps125
  go_wp2_with (fail)
  refine (HT.out _).mono ?_
  rintro e w' ⟨rfl, hg⟩
  go_wp2
  go_ret
  exact ⟨rfl, hg⟩
theorem add_run (a b c : ByteArray) (h : a.size + b.size ≤ 9223372036854775807) (hc : a ++ b = c) (W : World) : (Op.stringOp .add a b).run Tryz.prog W = .ok (.string c) W := by
  rw [run_string_add_sum W _ _ h, hc]
theorem wrap_byte {r : Int} (h0 : 0 ≤ r) (h1 : r ≤ 255) : IntKind.u64.wrap r = r := by
  simp [IntKind.wrap, IntKind.signed, IntKind.bits]; omega
theorem pod_parts (p : P1) : tx (txtL p.file) ++ tx (txtL p.name) ++ tx (txtL p.image) ++ beS 1 p.r.toNat = tx (podL p) := by
  rw [beS_tx, tx_app, tx_app, tx_app, podL]; simp only [List.append_assoc]
set_option maxHeartbeats 4000000 in
theorem podB_any (p : P1) (w : World) (hp : p.Fit 4096) : Calls Tryz.prog 89 #[p.val] w fun e w' => e = .returned (.string (tx (podL p))) ∧ Fresh w w' := by
  have HPP := Lib.hid (pod_parts p)
  obtain ⟨file, name, image, r⟩ := p
  have H1 := Lib.hid (fun W => text1_any file W hp.file)
  have H2 := Lib.hid (fun W => text1_any name W hp.name)
  have H3 := Lib.hid (fun W => text1_any image W hp.image)
  have hr0 : 0 ≤ r := hp.r0
  have hr1 : r ≤ 255 := hp.r1
  have H4 := Lib.hid (fun W => put_yes 1 r W (by decide) hr0 (by omega))
  have z1 : (tx (txtL file)).size ≤ 5000 := by rw [tx_size, txtL_len]; have := hp.file; dsimp only at this; omega
  have z2 : (tx (txtL name)).size ≤ 5000 := by rw [tx_size, txtL_len]; have := hp.name; dsimp only at this; omega
  have z3 : (tx (txtL image)).size ≤ 5000 := by rw [tx_size, txtL_len]; have := hp.image; dsimp only at this; omega
  have z4 : (beS 1 r.toNat).size = 1 := beS_size _ _
  have hw := wrap_byte hr0 hr1
  dsimp only [P1.val] at *
  rw [show (1 : Int).toNat = 1 from rfl] at H4
  clear hp
  generalize tx (txtL file) = A at *
  generalize tx (txtL name) = B at *
  generalize tx (txtL image) = C at *
  generalize beS 1 r.toNat = D at *
  rw [← HPP.out]
  have s1 : (A ++ B).size ≤ 10000 := by rw [ByteArray.size_append]; omega
  have s2 : (A ++ B ++ C).size ≤ 15000 := by rw [ByteArray.size_append]; omega
  have a1 := add_run A B _ (by omega) rfl
  have a2 := add_run (A ++ B) C _ (by omega) rfl
  have a3 := add_run (A ++ B ++ C) D _ (by omega) rfl
  generalize A ++ B ++ C ++ D = ABCD at *
  generalize A ++ B ++ C = ABC at *
  generalize A ++ B = AB at *
  have HA := Lib.hid (at_new w (.cells #[.string file, .string name, .string image, .int .u8 r] 152))
  have HF0 := Lib.hid ((Fresh.refl w).alloc (.cells #[.string file, .string name, .string image, .int .u8 r] 152))
  go_enter Tryz.func89, Tryz.ntmps89
  go_wp2_with (fail)
  generalize w.alloc (.cells #[.string file, .string name, .string image, .int .u8 r] 152) = W1 at *
  obtain ⟨z, hz⟩ : ∃ z, z = w.heap.size := ⟨_, rfl⟩
  rw [← hz] at HA ⊢
  clear hz
  have HKP : Hid (∀ W, Fresh W1 W → W.cell? ⟨z, 0, none⟩ = some (.string file) ∧ W.cell? ⟨z, 1, none⟩ = some (.string name) ∧ W.cell? ⟨z, 2, none⟩ = some (.string image) ∧ W.cell? ⟨z, 3, none⟩ = some (.int .u8 r)) := fun W f =>
    (p1_box (p := ⟨file, name, image, r⟩) (f.at HA.out)).1
  obtain ⟨k0, k1, k2, k3⟩ := HKP.out W1 (.refl _)
  have HK : Hid (Fresh W1 W1.drew) := (Fresh.refl W1).drew
  go_region_held3 (fun w' => (w'.cell? ⟨z, 0, none⟩ = some (.string file) ∧ w'.cell? ⟨z, 1, none⟩ = some (.string name) ∧ w'.cell? ⟨z, 2, none⟩ = some (.string image) ∧ w'.cell? ⟨z, 3, none⟩ = some (.int .u8 r))) (go_keep)
    (first
      | (go_at_call 125; (with_reducible refine (H1.out _).mono ?_); rintro e W2 ⟨rfl, hf⟩; have HK := Lib.hid (HK.out.trans hf); obtain ⟨k0, k1, k2, k3⟩ := HKP.out _ HK.out; clear hf)
      | (go_at_call 125; (with_reducible refine (H2.out _).mono ?_); rintro e W2 ⟨rfl, hf⟩; have HK := Lib.hid (HK.out.trans hf); obtain ⟨k0, k1, k2, k3⟩ := HKP.out _ HK.out; clear hf)
      | (go_at_call 125; (with_reducible refine (H3.out _).mono ?_); rintro e W2 ⟨rfl, hf⟩; have HK := Lib.hid (HK.out.trans hf); obtain ⟨k0, k1, k2, k3⟩ := HKP.out _ HK.out; clear hf)
      | (go_at_call 62; (with_reducible refine (H4.out _).mono ?_); rintro e W2 ⟨rfl, hf⟩; have HK := Lib.hid (HK.out.trans hf); obtain ⟨k0, k1, k2, k3⟩ := HKP.out _ HK.out; clear hf))
  all_goals go_wp2
  all_goals go_ret
  all_goals exact ⟨rfl, HF0.out.trans HK.out⟩
end Go.Proofs.YtmomlgkpdoapoaaGreatDoor.K

/-
  A pod that came in, opened: where its rows lie; how great it is.
  States of version 3 that came in, opened: where their rows lie; how great they are.
  What was put is taken as it was, and what was taken is put as it was: numbers, texts, states of version 1. No call.
  What was put is taken as it was, and what was taken is put as it was: states of version 2. No call.
  What was put is taken as it was, and what was taken is put as it was: states of version 3. No call.
  As KFlow: who waits for whom by bit masks, so that great regions are reckoned fast; the frame behind told slot by slot.
-/
import Derived.Test.YtmomlgkpdoapoaaGreatDoorCat02
import Derived.Deep.Slices
import Derived.SizedLaws
import Derived.ChangeSame
import Derived.Test.YtmomlgkpdoapoaaGreatDoorCat32
import Derived.Test.YtmomlgkpdoapoaaGreatDoorCat01
import Derived.Test.YtmomlgkpdoapoaaGreatDoorCat05
import Derived.Lib.IndexBytes
import Derived.Test.YtmomlgkpdoapoaaGreatDoorCat06
import Derived.Test.YtmomlgkpdoapoaaGreatDoorCat03
set_option linter.unusedSimpArgs false
set_option linter.unusedVariables false
namespace Go.Proofs.YtmomlgkpdoapoaaGreatDoor
open Go.ChangeShapes Go.WideShapes Go.ChangeAt Go.RowKit Go.Deep

theorem bulk_one {H : Type} (d : DataW H) : 1 ≤ Rows.uptoBulk d := by
  cases d with
  | lit l => cases l <;> simp [Rows.uptoBulk]
  | nil => simp [Rows.uptoBulk]
  | ptr d => simp [Rows.uptoBulk]
  | slice elems spare => simp [Rows.uptoBulk]
  | agg parts => simp [Rows.uptoBulk]
  | iface t d => simp [Rows.uptoBulk]
  | map entries => simp [Rows.uptoBulk]
  | held h => simp [Rows.uptoBulk]
theorem bulk_part {H : Type} {d : DataW H} {l : List (DataW H)} (h : d ∈ l) : Rows.uptoBulk d ≤ Rows.uptoBulkAll l := by
  induction l with
  | nil => cases h
  | cons x r ih =>
    simp only [Rows.uptoBulkAll]
    cases List.mem_cons.1 h with
    | inl e => subst e; omega
    | inr e => have := ih e; omega
theorem bulk_len {H : Type} (l : List (DataW H)) : l.length ≤ Rows.uptoBulkAll l := by
  induction l with
  | nil => simp
  | cons x r ih => have := bulk_one x; simp only [Rows.uptoBulkAll, List.length_cons]; omega
theorem cells_int : Tryz.prog.cellsOf 3 = 1 := by kernel_rfl
theorem cells_int64 : Tryz.prog.cellsOf 2 = 1 := by kernel_rfl
theorem cells_bool : Tryz.prog.cellsOf 4 = 1 := by kernel_rfl
theorem cells_str : Tryz.prog.cellsOf 9 = 1 := by kernel_rfl
theorem cells_res : Tryz.prog.cellsOf 38 = 1 := by kernel_rfl
theorem cells_pro : Tryz.prog.cellsOf 95 = 1 := by kernel_rfl
theorem cells_port : Tryz.prog.cellsOf 97 = 2 := by kernel_rfl
theorem cells_env : Tryz.prog.cellsOf 98 = 2 := by kernel_rfl
theorem cells_cont : Tryz.prog.cellsOf 94 = 7 := by kernel_rfl
theorem cells_pod : Tryz.prog.cellsOf 41 = 6 := by kernel_rfl
theorem cells_sstr : Tryz.prog.cellsOf 79 = 1 := by kernel_rfl
theorem cells_sport : Tryz.prog.cellsOf 91 = 1 := by kernel_rfl
theorem cells_senv : Tryz.prog.cellsOf 92 = 1 := by kernel_rfl
theorem cells_scont : Tryz.prog.cellsOf 39 = 1 := by kernel_rfl
/-- A slice's row, its elements read by 'each'. -/
theorem open_rows {H : Type} {enc : TypeId × Value → H} {W : World} {fuel : Nat} {α : Type} [Inhabited α] {t e k : Nat} (cell : α → List Value) (P : α → DataW H → Prop) (hk : ∀ y, (cell y).length = k) (hkp : 0 < k) (ht : Tryz.prog.underlying t = some (.slice e)) (hc : Tryz.prog.cellsOf e = k)
    (each : ∀ n cs' d pl, DataW.trod enc Tryz.prog W 0 (fun _ => true) true n e cs' = some (d, pl) → ∃ y, cs' = cell y ∧ P y d) {cs : List Value} {x : DataW H × List MemPlace} (h : DataW.trod enc Tryz.prog W 0 (fun _ => true) true fuel t cs = some x) :
    ∃ (l : List α) (a : Option Addr) (cap : Nat), cs = [.slice a l.length cap] ∧ RowAt W a (l.flatMap cell) ∧ (∀ y ∈ l, ∃ d, P y d ∧ Rows.uptoBulk d ≤ Rows.uptoBulk x.1) ∧ l.length ≤ Rows.uptoBulk x.1 ∧ l.length ≤ cap := by
  rcases open_slice ht h with ⟨rfl, rfl⟩ | ⟨ad, len, cap, m, n, D, Pl, rfl, _, hlc, hcm, hm, rfl, hx⟩
  · exact ⟨[], none, 0, rfl, RowAt.nil _ _, (fun y h => absurd h List.not_mem_nil), Nat.zero_le _, Nat.zero_le _⟩
  · simp only [if_true] at hm
    rw [hm] at hx
    rw [hc] at hx
    have hlm := hlc
    have get : ∀ i, i < len → ∃ y : α, (∀ j v, (cell y)[j]? = some v → W.cell? ((ad.add (i * k)).add j) = some v) ∧ P y (D i) := fun i hi => by
      obtain ⟨cs', h1, h2⟩ := hx i (by omega)
      obtain ⟨_, hlen, hcell⟩ := World.cells?_some h1
      obtain ⟨y, rfl, hp⟩ := each _ _ _ _ h2
      refine ⟨y, fun j v hj => ?_, hp⟩
      have hj3 := (List.getElem?_eq_some_iff.1 hj).1
      rw [hcell j (by rw [← hk y]; exact hj3)]
      exact hj
    obtain ⟨q, hq⟩ := choose_lt get
    have hll : ((List.range len).map q).length = len := by simp
    refine ⟨(List.range len).map q, some ad, cap, by rw [hll], ?_, ?_, ?_, by rw [hll]; exact hlc⟩
    · by_cases h0 : len = 0
      · subst h0; exact .nil _ _
      · obtain ⟨b, off, spot⟩ := ad
        have hc0 : ∃ v, (cell (q 0))[0]? = some v := ⟨_, List.getElem?_eq_getElem (by rw [hk]; exact hkp)⟩
        obtain ⟨v0, hv0⟩ := hc0
        obtain rfl : spot = none := by
          have := World.cell?_spot ((hq 0 (by omega)).1 0 v0 hv0)
          simpa [Addr.add] using this
        refine .inr ⟨b, off, rfl, fun j v hj => ?_⟩
        have hjl : j < len * k := by
          have := (List.getElem?_eq_some_iff.1 hj).1
          rw [flat_length cell k hk, hll] at this
          exact this
        have hi : j / k < len := Nat.div_lt_of_lt_mul (by rw [Nat.mul_comm]; exact hjl)
        have hr : j % k < k := Nat.mod_lt _ hkp
        have hjd : j / k * k + j % k = j := by rw [Nat.mul_comm]; exact Nat.div_add_mod j k
        have hg := flat_get cell k hk ((List.range len).map q) (j / k) (by rw [hll]; exact hi) (j % k) hr
        rw [hjd, hj] at hg
        have he : ((List.range len).map q)[j / k]'(by rw [hll]; exact hi) = q (j / k) := by simp
        rw [he] at hg
        have := (hq (j / k) hi).1 (j % k) v hg.symm
        rw [addr_add, addr_add, Nat.add_assoc, hjd] at this
        exact this
    · intro y hy
      obtain ⟨i, hi, rfl⟩ := List.mem_map.1 hy
      have hi' := List.mem_range.1 hi
      refine ⟨D i, (hq i hi').2, ?_⟩
      have : D i ∈ (List.range len).map D := List.mem_map.2 ⟨i, hi, rfl⟩
      have h2 := bulk_part this
      simp only [Rows.uptoBulk]
      omega
    · rw [hll]
      have := bulk_len ((List.range len).map D)
      simp only [Rows.uptoBulk]
      rw [List.length_map, List.length_range] at this
      omega
theorem open_texts {H : Type} {enc : TypeId × Value → H} {W : World} {fuel : Nat} {cs : List Value} {x : DataW H × List MemPlace} (h : DataW.trod enc Tryz.prog W 0 (fun _ => true) true fuel 79 cs = some x) :
    ∃ (l : List ByteArray) (a : Option Addr) (cap : Nat), cs = [.slice a l.length cap] ∧ RowAt W a (tcells l) ∧ (∀ s ∈ l, s.size ≤ Rows.uptoBulk x.1) ∧ l.length ≤ Rows.uptoBulk x.1 := by
  obtain ⟨l, a, cap, h1, h2, h3, h4, _⟩ := open_rows (α := ByteArray) tcell (fun s d => d = .lit (.string s.data.toList)) (fun _ => rfl) (by decide) Tryz.underlying79 cells_str (fun n cs' d pl h => by
    obtain ⟨s, e1, e2, _⟩ := DataW.trod_string Tryz.underlying9 h
    simp only [Prod.mk.injEq] at e2
    exact ⟨s, e1, e2.1⟩) h
  refine ⟨l, a, cap, h1, h2, fun s hs => ?_, h4⟩
  obtain ⟨d, rfl, hd⟩ := h3 s hs
  simp [Rows.uptoBulk] at hd
  omega
instance : Inhabited (Int × Int) := ⟨(0, 0)⟩
set_option maxRecDepth 100000 in
theorem open_ports {H : Type} {enc : TypeId × Value → H} {W : World} {fuel : Nat} {cs : List Value} {x : DataW H × List MemPlace} (h : DataW.trod enc Tryz.prog W 0 (fun _ => true) true fuel 91 cs = some x) :
    ∃ (l : List (Int × Int)) (a : Option Addr) (cap : Nat), cs = [.slice a l.length cap] ∧ RowAt W a (pcells l) ∧ (∀ p ∈ l, (Lit.int .i64 p.1).wf = true ∧ (Lit.int .i64 p.2).wf = true) ∧ l.length ≤ Rows.uptoBulk x.1 ∧ l.length ≤ cap := by
  obtain ⟨l, a, cap, h1, h2, h3, h4, h5⟩ := open_rows (α := Int × Int) pcell (fun p _ => (Lit.int .i64 p.1).wf = true ∧ (Lit.int .i64 p.2).wf = true) (fun _ => rfl) (by decide) Tryz.underlying91 cells_port (fun n cs' d pl h => by
    obtain ⟨xs, k, hk, hxy, hlen, hxl, hf⟩ := DataW.trod_struct Tryz.underlying97 h
    rw [cells_port] at hlen
    match xs, hxl, cs', hlen with
    | [y0, y1], _, [v0, v1], _ =>
      have g0 := hf 0 _ rfl
      have g1 := hf 1 _ rfl
      simp [cells_int64, cells_pro] at g0 g1
      obtain ⟨k0, e0, f0, w0⟩ := DataW.trod_int Tryz.underlying2 g0
      obtain ⟨k1, e1, f1, w1⟩ := DataW.trod_int Tryz.underlying95 g1
      simp only [List.cons.injEq, and_true] at e0 e1
      subst e0 e1
      exact ⟨(k0, k1), rfl, w0, w1⟩) h
  exact ⟨l, a, cap, h1, h2, fun p hp => (h3 p hp).choose_spec.1, h4, h5⟩
set_option maxRecDepth 100000 in
theorem open_envs {H : Type} {enc : TypeId × Value → H} {W : World} {fuel : Nat} {cs : List Value} {x : DataW H × List MemPlace} (h : DataW.trod enc Tryz.prog W 0 (fun _ => true) true fuel 92 cs = some x) :
    ∃ (l : List (ByteArray × ByteArray)) (a : Option Addr) (cap : Nat), cs = [.slice a l.length cap] ∧ RowAt W a (ecells l) ∧ (∀ p ∈ l, p.1.size ≤ Rows.uptoBulk x.1 ∧ p.2.size ≤ Rows.uptoBulk x.1) ∧ l.length ≤ Rows.uptoBulk x.1 := by
  haveI : Inhabited (ByteArray × ByteArray) := ⟨(⟨#[]⟩, ⟨#[]⟩)⟩
  obtain ⟨l, a, cap, h1, h2, h3, h4, _⟩ := open_rows (α := ByteArray × ByteArray) ecell (fun p d => p.1.size ≤ Rows.uptoBulk d ∧ p.2.size ≤ Rows.uptoBulk d) (fun _ => rfl) (by decide) Tryz.underlying92 cells_env (fun n cs' d pl h => by
    obtain ⟨xs, k, hk, hxy, hlen, hxl, hf⟩ := DataW.trod_struct Tryz.underlying98 h
    rw [cells_env] at hlen
    match xs, hxl, cs', hlen with
    | [y0, y1], _, [v0, v1], _ =>
      have g0 := hf 0 _ rfl
      have g1 := hf 1 _ rfl
      simp [cells_str] at g0 g1
      obtain ⟨k0, e0, f0, _⟩ := DataW.trod_string Tryz.underlying9 g0
      obtain ⟨k1, e1, f1, _⟩ := DataW.trod_string Tryz.underlying9 g1
      simp only [List.cons.injEq, and_true] at e0 e1
      subst e0 e1
      simp only [Prod.mk.injEq] at hxy
      refine ⟨(k0, k1), rfl, ?_, ?_⟩
      · rw [hxy.1, f0, f1]
        simp [Rows.uptoBulk, Rows.uptoBulkAll]
        omega
      · rw [hxy.1, f0, f1]
        simp [Rows.uptoBulk, Rows.uptoBulkAll]
        omega) h
  exact ⟨l, a, cap, h1, h2, fun p hp => by obtain ⟨d, h5, h6⟩ := h3 p hp; exact ⟨by omega, by omega⟩, h4⟩
set_option maxRecDepth 100000 in
set_option maxHeartbeats 1000000 in
theorem open_cont {H : Type} {enc : TypeId × Value → H} {W : World} {fuel : Nat} {cs : List Value} {d : DataW H} {pl : List MemPlace} (h : DataW.trod enc Tryz.prog W 0 (fun _ => true) true fuel 94 cs = some (d, pl)) :
    ∃ m : CM, cs = m.cells ∧ m.In W ∧ (Rows.uptoBulk d ≤ 1048576 → m.c.Low) := by
  obtain ⟨xs, k, hk, hxy, hlen, hxl, hf⟩ := DataW.trod_struct Tryz.underlying94 h
  rw [cells_cont] at hlen
  match xs, hxl, cs, hlen with
  | [y0, y1, y2, y3, y4, y5, y6], _, [v0, v1, v2, v3, v4, v5, v6], _ =>
    have g0 := hf 0 _ rfl
    have g1 := hf 1 _ rfl
    have g2 := hf 2 _ rfl
    have g3 := hf 3 _ rfl
    have g4 := hf 4 _ rfl
    have g5 := hf 5 _ rfl
    have g6 := hf 6 _ rfl
    simp [cells_str, cells_int64, cells_sstr, cells_sport, cells_senv] at g0 g1 g2 g3 g4 g5 g6
    obtain ⟨k0, e0, f0, _⟩ := DataW.trod_string Tryz.underlying9 g0
    obtain ⟨k1, e1, f1, _⟩ := DataW.trod_string Tryz.underlying9 g1
    obtain ⟨k2, a2, c2, e2, r2, b2, n2⟩ := open_texts g2
    obtain ⟨k3, a3, c3, e3, r3, b3, n3, o3⟩ := open_ports g3
    obtain ⟨k4, e4, f4, w4⟩ := DataW.trod_int Tryz.underlying2 g4
    obtain ⟨k5, e5, f5, w5⟩ := DataW.trod_int Tryz.underlying2 g5
    obtain ⟨k6, a6, c6, e6, r6, b6, n6⟩ := open_envs g6
    simp only [List.cons.injEq, and_true] at e0 e1 e2 e3 e4 e5 e6
    subst e0 e1 e2 e3 e4 e5 e6
    simp only [Prod.mk.injEq] at hxy
    refine ⟨⟨⟨k0, k1, k2, k3, k4, k5, k6⟩, a2, c2, a3, c3, a6, c6⟩, rfl, ⟨r2, r3, r6, o3⟩, fun hb => ?_⟩
    have hall : Rows.uptoBulk y0.1 + (Rows.uptoBulk y1.1 + (Rows.uptoBulk y2.1 + (Rows.uptoBulk y3.1 + Rows.uptoBulk y6.1))) ≤ 1048576 := by
      rw [hxy.1] at hb
      simp only [List.map_cons, List.map_nil, Rows.uptoBulk, Rows.uptoBulkAll] at hb
      omega
    have s0 : k0.size ≤ Rows.uptoBulk y0.1 := by rw [f0]; simp [Rows.uptoBulk]
    have s1 : k1.size ≤ Rows.uptoBulk y1.1 := by rw [f1]; simp [Rows.uptoBulk]
    exact { name := by show k0.size ≤ _; omega, image := by show k1.size ≤ _; omega, lc := by show k2.length ≤ _; omega, lp := by show k3.length ≤ _; omega, le := by show k6.length ≤ _; omega,
            cmd := fun s hs => by have := b2 s hs; omega, env := fun v hv => by have := b6 v hv; omega, icpu := w4, imem := w5, ip := b3 }
set_option maxRecDepth 100000 in
set_option maxHeartbeats 1000000 in
theorem open_pod {H : Type} {enc : TypeId × Value → H} {W : World} {fuel : Nat} {cs : List Value} {d : DataW H} {pl : List MemPlace} (h : DataW.trod enc Tryz.prog W 0 (fun _ => true) true fuel 41 cs = some (d, pl)) :
    ∃ p : PM, cs = p.val.cells.toList ∧ p.At W ∧ (Rows.uptoBulk d ≤ 1048576 → p.Low) := by
  haveI : Inhabited CM := ⟨⟨⟨⟨#[]⟩, ⟨#[]⟩, [], [], 0, 0, []⟩, none, 0, none, 0, none, 0⟩⟩
  obtain ⟨xs, k, hk, hxy, hlen, hxl, hf⟩ := DataW.trod_struct Tryz.underlying41 h
  rw [cells_pod] at hlen
  match xs, hxl, cs, hlen with
  | [y0, y1, y2, y3, y4, y5], _, [v0, v1, v2, v3, v4, v5], _ =>
    have g0 := hf 0 _ rfl
    have g1 := hf 1 _ rfl
    have g2 := hf 2 _ rfl
    have g3 := hf 3 _ rfl
    have g4 := hf 4 _ rfl
    have g5 := hf 5 _ rfl
    simp [cells_str, cells_int64, cells_res, cells_bool, cells_scont] at g0 g1 g2 g3 g4 g5
    obtain ⟨k0, e0, f0, _⟩ := DataW.trod_string Tryz.underlying9 g0
    obtain ⟨k1, e1, f1, _⟩ := DataW.trod_string Tryz.underlying9 g1
    obtain ⟨k2, e2, f2, w2⟩ := DataW.trod_int Tryz.underlying38 g2
    obtain ⟨k3, e3, f3, w3⟩ := DataW.trod_int Tryz.underlying2 g3
    obtain ⟨k4, e4, f4⟩ := DataW.trod_bool Tryz.underlying4 g4
    obtain ⟨l, a, cap, e5, r5, b5, n5, l5⟩ := open_rows (α := CM) CM.cells (fun m d => m.In W ∧ (Rows.uptoBulk d ≤ 1048576 → m.c.Low)) (fun _ => rfl) (by decide) Tryz.underlying39 cells_cont (fun n cs' d pl h => open_cont h) g5
    simp only [List.cons.injEq, and_true] at e0 e1 e2 e3 e4 e5
    subst e0 e1 e2 e3 e4 e5
    simp only [Prod.mk.injEq] at hxy
    refine ⟨⟨k0, k1, k2, k3, k4, a, cap, l⟩, rfl, ⟨r5, fun m hm => by obtain ⟨d, h1, _⟩ := b5 m hm; exact h1.1, l5⟩, fun hb => ?_⟩
    have hall : Rows.uptoBulk y0.1 + (Rows.uptoBulk y1.1 + Rows.uptoBulk y5.1) ≤ 1048576 := by
      rw [hxy.1] at hb
      simp only [List.map_cons, List.map_nil, Rows.uptoBulk, Rows.uptoBulkAll] at hb
      omega
    have s0 : k0.size ≤ Rows.uptoBulk y0.1 := by rw [f0]; simp [Rows.uptoBulk]
    have s1 : k1.size ≤ Rows.uptoBulk y1.1 := by rw [f1]; simp [Rows.uptoBulk]
    exact { name := by show k0.size ≤ _; omega, ns := by show k1.size ≤ _; omega, ir := w2, ig := w3, len := by show l.length ≤ _; omega,
            cs := fun m hm => by obtain ⟨d, h1, h2⟩ := b5 m hm; exact h1.2 (by omega) }
end Go.Proofs.YtmomlgkpdoapoaaGreatDoor
namespace Go.Proofs.YtmomlgkpdoapoaaGreatDoor.K
open Go.ChangeShapes Go.WideShapes Go.ChangeAt Go.RowKit Go.Deep
set_option maxRecDepth 100000

theorem cells_u64 : Tryz.prog.cellsOf 22 = 1 := by kernel_rfl
theorem cells_pod3 : Tryz.prog.cellsOf 61 = 7 := by kernel_rfl
theorem cells_spod3 : Tryz.prog.cellsOf 23 = 1 := by kernel_rfl
theorem cells_state3 : Tryz.prog.cellsOf 25 = 2 := by kernel_rfl
theorem u64_of {v : Int} (h : (Lit.int .u64 v).wf = true) : 0 ≤ v ∧ v ≤ 18446744073709551615 := by
  simp [Lit.wf, IntKind.min, IntKind.max, IntKind.signed, IntKind.bits] at h; omega
instance : Inhabited M3 := ⟨⟨⟨#[]⟩, ⟨⟨#[]⟩, ⟨#[]⟩, 0, 0, false, none, 0, []⟩⟩⟩
theorem lo_low {x : M3} (hf : x.file.size ≤ 1048576) (h : x.m.Low) : x.p.Lo where
  file := hf
  name := h.name
  ns := h.ns
  ir := h.ir
  ig := h.ig
  len := by have := h.len; simpa [M3.p, PM.pd] using this
  cs := fun c hc => by
    obtain ⟨m, hm, rfl⟩ := List.mem_map.1 hc
    exact h.cs m hm
theorem open_pod3 {H : Type} {enc : TypeId × Value → H} {W : World} {fuel : Nat} {cs : List Value} {d : DataW H} {pl : List MemPlace} (h : DataW.trod enc Tryz.prog W 0 (fun _ => true) true fuel 61 cs = some (d, pl)) :
    ∃ x : M3, cs = x.cells ∧ x.m.At W ∧ (Rows.uptoBulk d ≤ 1048576 → x.p.Lo) := by
  obtain ⟨xs, k, hk, hxy, hlen, hxl, hf⟩ := DataW.trod_struct Tryz.underlying61 h
  rw [cells_pod3] at hlen
  match xs, hxl, cs, hlen with
  | [y0, y1], _, [v0, v1, v2, v3, v4, v5, v6], _ =>
    have g0 := hf 0 _ rfl
    have g1 := hf 1 _ rfl
    simp [cells_str, cells_pod] at g0 g1
    obtain ⟨k0, e0, f0, _⟩ := DataW.trod_string Tryz.underlying9 g0
    obtain ⟨p, e1, a1, l1⟩ := open_pod g1
    simp only [List.cons.injEq, and_true] at e0
    simp only [Prod.mk.injEq] at hxy
    obtain ⟨p1, p2, p3, p4, p5, p6, p7, p8⟩ := p
    subst e0
    refine ⟨⟨k0, ⟨p1, p2, p3, p4, p5, p6, p7, p8⟩⟩, ?_, a1, fun hb => lo_low ?_ (l1 ?_)⟩
    · have : [v1, v2, v3, v4, v5, v6] = [.string p1, .string p2, .int .i64 p3, .int .i64 p4, .bool p5, .slice p6 p8.length p7] := e1
      simp only [M3.cells]
      rw [this]
    · rw [hxy.1] at hb
      simp only [List.map_cons, List.map_nil, f0, Rows.uptoBulk, Rows.uptoBulkAll] at hb
      show k0.size ≤ _
      rw [Lib.size_eq]; omega
    · rw [hxy.1] at hb
      simp only [List.map_cons, List.map_nil, f0, Rows.uptoBulk, Rows.uptoBulkAll] at hb
      omega
theorem open_st3 {H : Type} {enc : TypeId × Value → H} {W : World} {fuel : Nat} {cs : List Value} {d : DataW H} {pl : List MemPlace} (h : DataW.trod enc Tryz.prog W 0 (fun _ => true) true fuel 25 cs = some (d, pl)) :
    ∃ (seq : Int) (L : List P3) (a : Option Addr) (c : Nat), cs = [.int .u64 seq, .slice a L.length c] ∧ AtL L W a ∧ 0 ≤ seq ∧ seq ≤ 18446744073709551615 ∧ (Rows.uptoBulk d ≤ 1048576 → L.length ≤ 1048576 ∧ ∀ p ∈ L, p.Lo) := by
  obtain ⟨xs, k, hk, hxy, hlen, hxl, hf⟩ := DataW.trod_struct Tryz.underlying25 h
  rw [cells_state3] at hlen
  match xs, hxl, cs, hlen with
  | [y0, y1], _, [v0, v1], _ =>
    have g0 := hf 0 _ rfl
    have g1 := hf 1 _ rfl
    simp [cells_u64, cells_spod3] at g0 g1
    obtain ⟨k0, e0, f0, w0⟩ := DataW.trod_int Tryz.underlying22 g0
    obtain ⟨l, a, cap, e1, r1, b1, n1, l1⟩ := open_rows (α := M3) M3.cells (fun m d => m.m.At W ∧ (Rows.uptoBulk d ≤ 1048576 → m.p.Lo)) (fun _ => rfl) (by decide) Tryz.underlying23 cells_pod3 (fun n cs' d pl h => open_pod3 h) g1
    simp only [List.cons.injEq, and_true] at e0 e1
    subst e0 e1
    simp only [Prod.mk.injEq] at hxy
    obtain ⟨b0, b00⟩ := u64_of w0
    refine ⟨k0, pods3 l, a, cap, by rw [pods3_length], ⟨l, rfl, r1, fun m hm => ?_⟩, b0, b00, fun hb => ?_⟩
    · obtain ⟨d', h1, _⟩ := b1 m hm
      exact h1.1
    · rw [hxy.1] at hb
      simp only [List.map_cons, List.map_nil, Rows.uptoBulk, Rows.uptoBulkAll] at hb
      refine ⟨by rw [pods3_length]; omega, fun p hp => ?_⟩
      obtain ⟨m, hm, rfl⟩ := List.mem_map.1 hp
      obtain ⟨d', h1, h2⟩ := b1 m hm
      exact h1.2 (by omega)
/-- A state among the arguments. -/
theorem arg_st3 {H : Type} {enc : TypeId × Value → H} {W : World} {base : Nat} {v : Value} {d : DataW H} {p : List MemPlace} (ho : Value.okWide Tryz.prog W .any base 25 v) (h : DataW.Trod enc Tryz.prog W 0 (fun _ => true) true 25 v d p) :
    ∃ (seq : Int) (L : List P3) (a : Option Addr) (c : Nat), v = st3 seq a L.length c ∧ AtL L W a ∧ 0 ≤ seq ∧ seq ≤ 18446744073709551615 ∧ (Rows.uptoBulk d ≤ 1048576 → L.length ≤ 1048576 ∧ ∀ p ∈ L, p.Lo) := by
  obtain ⟨cs, rfl, hs⟩ := okWide_struct Tryz.underlying25 ho
  obtain ⟨f, g⟩ := h
  obtain ⟨seq, L, a, c, h1, h2, h3⟩ := open_st3 g
  refine ⟨seq, L, a, c, ?_, h2, h3⟩
  have : cs = #[.int .u64 seq, .slice a L.length c] := Array.toList_inj.1 h1
  rw [this]; rfl
end Go.Proofs.YtmomlgkpdoapoaaGreatDoor.K
namespace Go.Proofs.YtmomlgkpdoapoaaGreatDoor.K
open Go.ChangeShapes Go.WideShapes Go.ChangeAt Go.RowKit

/-! ### put, then taken -/
theorem numB_cons (c : UInt8) (l : List UInt8) : numB (c :: l) = c.toNat * 256 ^ l.length + numB l := by
  suffices h : ∀ r : List UInt8, numB (c :: r.reverse) = c.toNat * 256 ^ r.length + numB r.reverse by
    have := h l.reverse; simpa using this
  intro r
  induction r with
  | nil => simp [numB]
  | cons d r ih =>
    have e : c :: (d :: r).reverse = (c :: r.reverse) ++ [d] := by simp
    rw [e, numB_snoc, ih, List.reverse_cons, numB_snoc, List.length_cons, Nat.pow_succ, Nat.add_mul, Nat.mul_assoc]
    omega
theorem numB_be (n v : Nat) : numB (be n v) = v % 256 ^ n := by
  induction n with
  | zero => simp [be, numB, Nat.mod_one]
  | succ n ih => rw [be, numB_cons, be_length, ih, dig_toNat, Nat.mod_pow_succ, Nat.mul_comm, Nat.add_comm]
theorem take_list (n v : Nat) (r : List UInt8) (h : okN n = true) : takeT (tx (be n v ++ r)) 0 n = (tx r, 0, ((v % 256 ^ n : Nat) : Int)) := by
  unfold takeT
  have hl := be_length n v
  rw [if_neg (by simp), if_neg (by simp [h]), Int.toNat_natCast, if_neg (by rw [tx_size, List.length_append, hl]; omega)]
  have e1 : (tx (be n v ++ r)).extract n (tx (be n v ++ r)).size = tx r := by
    apply list_ext
    rw [Lib.extract_to_end, tx_toList, tx_toList, List.drop_append_of_le_length (by omega), List.drop_of_length_le (by omega), List.nil_append]
  have e2 : (tx (be n v ++ r)).data.toList.take n = be n v := by
    rw [tx_toList, List.take_append_of_le_length (by omega), List.take_of_length_le (by omega)]
  rw [e1, e2, numB_be]
theorem text_list (s : ByteArray) (r : List UInt8) (hs : s.size ≤ 4096) : textT (tx (txtL s ++ r)) 0 = (tx r, 0, s) := by
  have h := take_list 2 s.size (s.data.toList ++ r) (by decide)
  rw [show ((2 : Nat) : Int) = 2 from rfl, Nat.mod_eq_of_lt (by show s.size < 65536; omega)] at h
  have hsz : s.data.toList.length = s.size := (Lib.size_eq s).symm
  unfold textT
  rw [txtL, List.append_assoc, h]
  dsimp only
  rw [if_neg (by simp), if_neg (by omega), if_neg (by rw [tx_size, List.length_append, hsz]; omega), Int.toNat_natCast]
  have e1 : (tx (s.data.toList ++ r)).extract s.size (tx (s.data.toList ++ r)).size = tx r := by
    apply list_ext
    rw [Lib.extract_to_end, tx_toList, tx_toList, List.drop_append_of_le_length (by omega), List.drop_of_length_le (by omega), List.nil_append]
  have e2 : (tx (s.data.toList ++ r)).extract 0 s.size = s := by
    apply list_ext
    rw [Lib.extract_data, List.drop_zero, Nat.sub_zero, tx_toList, List.take_append_of_le_length (by omega), List.take_of_length_le (by omega)]
  rw [e1, e2]
theorem pod_list {p : P1} (h : p.Fit 4096) (r : List UInt8) : podT (tx (podL p ++ r)) 0 = (tx r, 0, p) := by
  have h1 := text_list p.file (txtL p.name ++ (txtL p.image ++ (be 1 p.r.toNat ++ r))) h.file
  have h2 := text_list p.name (txtL p.image ++ (be 1 p.r.toNat ++ r)) h.name
  have h3 := text_list p.image (be 1 p.r.toNat ++ r) h.image
  have h4 := take_list 1 p.r.toNat r (by decide)
  have hr0 := h.r0
  have hr1 := h.r1
  have e : ((p.r.toNat % 256 ^ 1 : Nat) : Int) = p.r := by
    rw [show 256 ^ 1 = 256 from rfl]; omega
  rw [show ((1 : Nat) : Int) = 1 from rfl, e] at h4
  have := podT_eq h1 h2 h3 h4
  rw [podL]
  simp only [List.append_assoc]
  exact this
theorem pods_list : ∀ (l : List P1) (r : List UInt8), (∀ p ∈ l, p.Fit 4096) → podsT l.length (tx (l.flatMap podL ++ r)) 0 = (tx r, 0, l)
  | [], r, _ => rfl
  | p :: l, r, h => by
    have h1 := pod_list (h p (by simp)) (l.flatMap podL ++ r)
    have h2 := pods_list l r (fun q hq => h q (by simp [hq]))
    rw [List.length_cons, podsT, List.flatMap_cons, List.append_assoc, h1]
    dsimp only
    rw [h2]
theorem dec_enc (seq : Int) (l : List P1) (hs0 : 0 ≤ seq) (hs1 : seq ≤ 4294967295) (h : chk1 l = 0) (hr : ∀ p ∈ l, 0 ≤ p.r ∧ p.r ≤ 255) : decT (tx (enc1L seq l)) = (0, seq, l) := by
  obtain ⟨hl, hf⟩ := chk_fit h hr
  have h1 := take_list 4 seq.toNat (be 2 l.length ++ l.flatMap podL) (by decide)
  have h2 := take_list 2 l.length (l.flatMap podL) (by decide)
  have h3 := pods_list l [] (fun p hp => (hf p hp).mono (by omega))
  rw [show ((4 : Nat) : Int) = 4 from rfl, show ((seq.toNat % 256 ^ 4 : Nat) : Int) = seq from by rw [show 256 ^ 4 = 4294967296 from rfl]; omega] at h1
  rw [show ((2 : Nat) : Int) = 2 from rfl, show ((l.length % 256 ^ 2 : Nat) : Int) = (l.length : Int) from by rw [show 256 ^ 2 = 65536 from rfl]; omega] at h2
  rw [List.append_nil] at h3
  have hD : Dec1T (tx (enc1L seq l)) (tx (be 2 l.length ++ l.flatMap podL)) (tx (l.flatMap podL)) (tx []) 0 0 0 seq (l.length : Int) l := ⟨h1, h2, by rw [Int.toNat_natCast]; exact h3⟩
  rw [decT_eq hD, if_neg (by omega), if_neg (by simp [endT, tx_size]), if_neg (by simp [h])]

/-! ### taken, then put -/
theorem be_numB : ∀ l : List UInt8, be l.length (numB l) = l
  | [] => rfl
  | c :: l => by
    have ih := be_numB l
    have hlt := numB_lt l
    rw [List.length_cons, be, numB_cons]
    have e1 : dig (c.toNat * 256 ^ l.length + numB l) l.length = c := by
      apply UInt8.toNat_inj.1
      rw [dig_toNat, Nat.mul_comm, Nat.mul_add_div (Nat.pow_pos (by omega)), Nat.div_eq_of_lt hlt, Nat.add_zero, Nat.mod_eq_of_lt c.toNat_lt]
    have e2 : ∀ (k m v : Nat), k ≤ m → be k (c.toNat * 256 ^ m + v) = be k v := by
      intro k
      induction k with
      | zero => intros; rfl
      | succ k ihk =>
        intro m v hkm
        rw [be, be, ihk m v (by omega)]
        congr 1
        apply UInt8.toNat_inj.1
        rw [dig_toNat, dig_toNat]
        obtain ⟨d, rfl⟩ : ∃ d, m = d + 1 + k := ⟨m - k - 1, by omega⟩
        have e3 : c.toNat * 256 ^ (d + 1 + k) + v = 256 ^ k * (c.toNat * 256 ^ (d + 1)) + v := by
          rw [Nat.pow_add, ← Nat.mul_assoc, Nat.mul_comm (c.toNat * 256 ^ (d + 1)) (256 ^ k)]
        rw [e3, Nat.mul_add_div (Nat.pow_pos (by omega)), Nat.pow_succ, ← Nat.mul_assoc, Nat.add_comm, Nat.add_mul_mod_self_right]
    rw [e1, e2 l.length l.length (numB l) (Nat.le_refl _), ih]
theorem take_back {s s1 : ByteArray} {e v : Int} {n : Nat} (h : takeT s e n = (s1, 0, v)) : e = 0 ∧ s.data.toList = be n v.toNat ++ s1.data.toList := by
  unfold takeT at h
  split at h
  · rename_i h0; simp at h; exact absurd h.2.1 h0
  split at h
  · simp at h
  split at h
  · simp at h
  · rename_i h0 _ hsz
    simp only [Prod.mk.injEq, Int.toNat_natCast] at h
    obtain ⟨h1, _, h3⟩ := h
    refine ⟨by simpa using h0, ?_⟩
    rw [Int.toNat_natCast] at hsz
    have hl : (s.data.toList.take n).length = n := by rw [List.length_take, ← Lib.size_eq]; omega
    have := be_numB (s.data.toList.take n)
    rw [hl] at this
    rw [← h3, Int.toNat_natCast, this, ← h1, Lib.extract_to_end, List.take_append_drop]
theorem text_back {s s1 x : ByteArray} {e : Int} (h : textT s e = (s1, 0, x)) : e = 0 ∧ s.data.toList = txtL x ++ s1.data.toList := by
  obtain ⟨t, e1, v, ht⟩ : ∃ t e1 v, takeT s e 2 = (t, e1, v) := ⟨_, _, _, rfl⟩
  have hv := take_val s e 2
  rw [show ((2 : Nat) : Int) = 2 from rfl, ht] at hv
  unfold textT at h
  rw [ht] at h
  dsimp only at h hv
  split at h
  · rename_i h0; simp at h; exact absurd h.2.1 h0
  split at h
  · simp at h
  split at h
  · simp at h
  · rename_i h0 h4 hsz
    simp only [Prod.mk.injEq] at h
    obtain ⟨h1, _, h3⟩ := h
    have he1 : e1 = 0 := by simpa using h0
    subst he1
    obtain ⟨h5, h6⟩ := take_back (n := 2) ht
    refine ⟨h5, ?_⟩
    obtain ⟨m, rfl⟩ := Int.eq_ofNat_of_zero_le hv.1
    rw [Int.toNat_natCast] at h1 h3 h6
    have hx : x.size = m := by rw [← h3, ByteArray.size_extract]; omega
    have hxl : x.data.toList = t.data.toList.take m := by rw [← h3, Lib.extract_data, List.drop_zero, Nat.sub_zero]
    have hsl : s1.data.toList = t.data.toList.drop m := by rw [← h1, Lib.extract_to_end]
    rw [h6, txtL, hx, hxl, hsl, List.append_assoc, List.take_append_drop]
theorem pod_back {s s4 : ByteArray} {e : Int} {p : P1} (h : podT s e = (s4, 0, p)) : e = 0 ∧ s.data.toList = podL p ++ s4.data.toList := by
  obtain ⟨s1, s2, s3, s4', x1, x2, x3, e1, e2, e3, e4, v, hT⟩ := pod1T s e
  rw [podT_eq hT.h1 hT.h2 hT.h3 hT.h4] at h
  simp only [Prod.mk.injEq] at h
  obtain ⟨rfl, rfl, rfl⟩ := h
  obtain ⟨rfl, b4⟩ := take_back (n := 1) hT.h4
  obtain ⟨rfl, b3⟩ := text_back hT.h3
  obtain ⟨rfl, b2⟩ := text_back hT.h2
  obtain ⟨h0, b1⟩ := text_back hT.h1
  refine ⟨h0, ?_⟩
  rw [b1, b2, b3, b4, podL]
  simp only [List.append_assoc]
theorem pods_back : ∀ (n : Nat) {s s3 : ByteArray} {e : Int} {L : List P1}, podsT n s e = (s3, 0, L) → e = 0 ∧ s.data.toList = L.flatMap podL ++ s3.data.toList
  | 0, s, s3, e, L, h => by
    simp only [podsT, Prod.mk.injEq] at h
    obtain ⟨rfl, rfl, rfl⟩ := h
    exact ⟨rfl, rfl⟩
  | n + 1, s, s3, e, L, h => by
    obtain ⟨s1, e1, p, hp⟩ : ∃ s1 e1 p, podT s e = (s1, e1, p) := ⟨_, _, _, rfl⟩
    rw [podsT, hp] at h
    simp only [Prod.mk.injEq] at h
    obtain ⟨h1, h2, h3⟩ := h
    obtain ⟨rfl, h4⟩ := pods_back n (s := s1) (e := e1) (s3 := s3) (L := (podsT n s1 e1).2.2) (by rw [← h1, ← h2])
    obtain ⟨h5, h6⟩ := pod_back hp
    refine ⟨h5, ?_⟩
    rw [h6, h4, ← h3, List.flatMap_cons, List.append_assoc]
theorem enc_dec {b : ByteArray} {q : Int} {L : List P1} (h : decT b = (0, q, L)) : tx (enc1L q L) = b ∧ chk1 L = 0 ∧ 0 ≤ q ∧ q ≤ 4294967295 ∧ ∀ p ∈ L, p.Fit 4096 := by
  obtain ⟨s1, s2, s3, e1, e2, e3, q', n, L', hD⟩ := dec1T b
  have hv := hD.vals
  have hfit := decT_fit b
  rw [h] at hfit
  rw [decT_eq hD] at h
  split at h
  · simp at h
  split at h
  · rename_i h1; simp at h; exact absurd h.1 h1
  split at h
  · rename_i h1; simp at h; exact absurd h.1 h1
  · rename_i h0 hE hC
    simp only [Prod.mk.injEq, true_and] at h
    obtain ⟨rfl, rfl⟩ := h
    have hE' : endT s3 e3 = 0 := by simpa using hE
    have he3 : e3 = 0 ∧ s3.size = 0 := by
      unfold endT at hE'
      split at hE'
      · simp at hE'
      · rename_i h2
        exact ⟨hE', Classical.byContradiction fun h3 => h2 ⟨hE', h3⟩⟩
    obtain ⟨rfl, hs3⟩ := he3
    have hs3' : s3.data.toList = [] := List.eq_nil_of_length_eq_zero (by rw [← Lib.size_eq]; exact hs3)
    have hlen := podsT_len n.toNat s2 e2
    rw [hD.h3] at hlen
    dsimp only at hlen
    obtain ⟨rfl, b3⟩ := pods_back _ hD.h3
    obtain ⟨rfl, b2⟩ := take_back (n := 2) hD.h2
    obtain ⟨_, b1⟩ := take_back (n := 4) hD.h1
    refine ⟨?_, by simpa using hC, hv.1.1, hv.1.2, hfit.1⟩
    apply list_ext
    rw [tx_toList, enc1L, b1, b2, b3, hs3', List.append_nil, hlen]
end Go.Proofs.YtmomlgkpdoapoaaGreatDoor.K
namespace Go.Proofs.YtmomlgkpdoapoaaGreatDoor.K
open Go.ChangeShapes Go.WideShapes Go.ChangeAt Go.RowKit

/-! ### put, then taken -/
theorem upT_list (n v : Nat) (most : Int) (r : List UInt8) (h : okN n = true) (hv : v < 256 ^ n) (hm : (v : Int) ≤ most) : upT (tx (be n v ++ r)) 0 n most = (tx r, 0, (v : Int)) := by
  have h1 := take_list n v r h
  rw [Nat.mod_eq_of_lt hv] at h1
  unfold upT
  rw [h1]
  rw [if_neg (by show ¬ most < (v : Int); omega)]
section
variable {α : Type} {f : ByteArray → Int → ByteArray × Int × α} {g : α → List UInt8}
theorem many_list : ∀ (l : List α) (r : List UInt8), (∀ x ∈ l, ∀ r, f (tx (g x ++ r)) 0 = (tx r, 0, x)) → manyT f l.length (tx (l.flatMap g ++ r)) 0 = (tx r, 0, l)
  | [], r, _ => rfl
  | x :: l, r, h => by
    have h1 := h x (by simp) (l.flatMap g ++ r)
    have h2 := many_list l r (fun q hq => h q (by simp [hq]))
    rw [List.length_cons, manyT, List.flatMap_cons, List.append_assoc, h1]
    dsimp only
    rw [h2]
theorem many_back (hb : ∀ {s s1 : ByteArray} {e : Int} {x : α}, f s e = (s1, 0, x) → e = 0 ∧ s.data.toList = g x ++ s1.data.toList) :
    ∀ (n : Nat) {s s3 : ByteArray} {e : Int} {L : List α}, manyT f n s e = (s3, 0, L) → e = 0 ∧ s.data.toList = L.flatMap g ++ s3.data.toList
  | 0, s, s3, e, L, h => by
    simp only [manyT, Prod.mk.injEq] at h
    obtain ⟨rfl, rfl, rfl⟩ := h
    exact ⟨rfl, rfl⟩
  | n + 1, s, s3, e, L, h => by
    obtain ⟨s1, e1, p, hp⟩ : ∃ s1 e1 p, f s e = (s1, e1, p) := ⟨_, _, _, rfl⟩
    rw [manyT, hp] at h
    simp only [Prod.mk.injEq] at h
    obtain ⟨h1, h2, h3⟩ := h
    obtain ⟨rfl, h4⟩ := many_back hb n (s := s1) (e := e1) (s3 := s3) (L := (manyT f n s1 e1).2.2) (by rw [← h1, ← h2])
    obtain ⟨h5, h6⟩ := hb hp
    refine ⟨h5, ?_⟩
    rw [h6, h4, ← h3, List.flatMap_cons, List.append_assoc]
end
theorem cont_list {c : C2} (h : c.name.size ≤ 4096 ∧ c.image.size ≤ 4096) (r : List UInt8) : contT (tx (cL c ++ r)) 0 = (tx r, 0, c) := by
  have h1 := text_list c.name (txtL c.image ++ r) h.1
  have h2 := text_list c.image r h.2
  have := contT_eq h1 h2
  rw [cL, List.append_assoc]
  exact this
theorem pod2_list {p : P2} (h : p.Fit 4096) (hl : p.cs.length ≤ 16) (r : List UInt8) : pod2T (tx (pod2L p ++ r)) 0 = (tx r, 0, p) := by
  have h1 := text_list p.file (txtL p.name ++ (txtL p.ns ++ (be 1 p.r.toNat ++ (be 2 p.g.toNat ++ (be 1 p.cs.length ++ (p.cs.flatMap cL ++ r)))))) h.file
  have h2 := text_list p.name (txtL p.ns ++ (be 1 p.r.toNat ++ (be 2 p.g.toNat ++ (be 1 p.cs.length ++ (p.cs.flatMap cL ++ r))))) h.name
  have h3 := text_list p.ns (be 1 p.r.toNat ++ (be 2 p.g.toNat ++ (be 1 p.cs.length ++ (p.cs.flatMap cL ++ r)))) h.ns
  have h4 := take_list 1 p.r.toNat (be 2 p.g.toNat ++ (be 1 p.cs.length ++ (p.cs.flatMap cL ++ r))) (by decide)
  have h5 := take_list 2 p.g.toNat (be 1 p.cs.length ++ (p.cs.flatMap cL ++ r)) (by decide)
  have h6 := upT_list 1 p.cs.length 16 (p.cs.flatMap cL ++ r) (by decide) (by rw [show 256 ^ 1 = 256 from rfl]; omega) (by omega)
  have h7 := many_list (f := contT) (g := cL) p.cs r (fun c hc r => cont_list (h.cs c hc) r)
  have hr0 := h.r0
  have hr1 := h.r1
  have hg0 := h.g0
  have hg1 := h.g1
  rw [show ((1 : Nat) : Int) = 1 from rfl, show ((p.r.toNat % 256 ^ 1 : Nat) : Int) = p.r from by rw [show 256 ^ 1 = 256 from rfl]; omega] at h4
  rw [show ((2 : Nat) : Int) = 2 from rfl, show ((p.g.toNat % 256 ^ 2 : Nat) : Int) = p.g from by rw [show 256 ^ 2 = 65536 from rfl]; omega] at h5
  rw [show ((1 : Nat) : Int) = 1 from rfl] at h6
  have hP : Pod2T _ 0 _ _ _ _ _ _ (tx r) p.file p.name p.ns 0 0 0 0 0 0 0 p.r p.g (p.cs.length : Int) p.cs := ⟨h1, h2, h3, h4, h5, h6, by rw [Int.toNat_natCast]; exact h7⟩
  have := pod2T_eq hP
  rw [pod2L]
  simp only [List.append_assoc]
  exact this
theorem dec_enc2 (seq : Int) (l : List P2) (hs0 : 0 ≤ seq) (hs1 : seq ≤ 18446744073709551615) (h : chk2 l = 0) (hr : ∀ p ∈ l, p.Num) : dec2 (tx (enc2L seq l)) = (0, seq, l) := by
  obtain ⟨hl, hf⟩ := chk2_fit h hr
  have h1 := take_list 8 seq.toNat (be 2 l.length ++ l.flatMap pod2L) (by decide)
  have h2 := upT_list 2 l.length 1024 (l.flatMap pod2L) (by decide) (by rw [show 256 ^ 2 = 65536 from rfl]; omega) (by omega)
  have h3 := many_list (f := pod2T) (g := pod2L) l [] (fun p hp r => pod2_list ((hf p hp).1.mono (by omega)) (hf p hp).2 r)
  rw [show ((8 : Nat) : Int) = 8 from rfl, show ((seq.toNat % 256 ^ 8 : Nat) : Int) = seq from by rw [show 256 ^ 8 = 18446744073709551616 from rfl]; omega] at h1
  rw [show ((2 : Nat) : Int) = 2 from rfl] at h2
  rw [List.append_nil] at h3
  have hD : Dec2T (tx (enc2L seq l)) (tx (be 2 l.length ++ l.flatMap pod2L)) (tx (l.flatMap pod2L)) (tx []) 0 0 0 seq (l.length : Int) l := ⟨h1, h2, by rw [Int.toNat_natCast]; exact h3⟩
  rw [dec2_eq hD, dec2E, if_neg (by simp [endT, tx_size]), if_neg (by simp [h])]

/-! ### taken, then put -/
theorem upT_back {s s1 : ByteArray} {e v most : Int} {n : Nat} (h : upT s e n most = (s1, 0, v)) : e = 0 ∧ s.data.toList = be n v.toNat ++ s1.data.toList := by
  unfold upT at h
  split at h
  · simp at h
  · exact take_back h
theorem cont_back {s s1 : ByteArray} {e : Int} {c : C2} (h : contT s e = (s1, 0, c)) : e = 0 ∧ s.data.toList = cL c ++ s1.data.toList := by
  obtain ⟨t1, d1, x1, h1⟩ : ∃ t1 d1 x1, textT s e = (t1, d1, x1) := ⟨_, _, _, rfl⟩
  obtain ⟨t2, d2, x2, h2⟩ : ∃ t2 d2 x2, textT t1 d1 = (t2, d2, x2) := ⟨_, _, _, rfl⟩
  rw [contT_eq h1 h2] at h
  simp only [Prod.mk.injEq] at h
  obtain ⟨rfl, rfl, rfl⟩ := h
  obtain ⟨rfl, b2⟩ := text_back h2
  obtain ⟨h0, b1⟩ := text_back h1
  refine ⟨h0, ?_⟩
  rw [b1, b2, cL]
  simp only [List.append_assoc]
theorem pod2_back {s s7 : ByteArray} {e : Int} {p : P2} (h : pod2T s e = (s7, 0, p)) : e = 0 ∧ s.data.toList = pod2L p ++ s7.data.toList := by
  obtain ⟨s1, s2, s3, s4, s5, s6, t7, x1, x2, x3, e1, e2, e3, e4, e5, e6, e7, v, g, n, L, hT⟩ := pod2T_ex s e
  have hlen := hT.len
  rw [pod2T_eq hT] at h
  simp only [Prod.mk.injEq] at h
  obtain ⟨rfl, rfl, rfl⟩ := h
  obtain ⟨rfl, b7⟩ := many_back (fun h => cont_back h) _ hT.h7
  obtain ⟨rfl, b6⟩ := upT_back (n := 1) hT.h6
  obtain ⟨rfl, b5⟩ := take_back (n := 2) hT.h5
  obtain ⟨rfl, b4⟩ := take_back (n := 1) hT.h4
  obtain ⟨rfl, b3⟩ := text_back hT.h3
  obtain ⟨rfl, b2⟩ := text_back hT.h2
  obtain ⟨h0, b1⟩ := text_back hT.h1
  refine ⟨h0, ?_⟩
  rw [b1, b2, b3, b4, b5, b6, b7, pod2L]
  dsimp only
  rw [hlen]
  simp only [List.append_assoc]
theorem enc_dec2 {b : ByteArray} {q : Int} {L : List P2} (h : dec2 b = (0, q, L)) : tx (enc2L q L) = b ∧ chk2 L = 0 ∧ 0 ≤ q ∧ q ≤ 18446744073709551615 ∧ ∀ p ∈ L, p.Fit 4096 := by
  obtain ⟨s1, s2, s3, e1, e2, e3, q', n, L', hD⟩ := dec2T_ex b
  have hv := hD.vals
  have hfit := dec2_fit b
  have hlen := hD.fit.2
  rw [h] at hfit
  rw [dec2_eq hD, dec2E] at h
  split at h
  · rename_i h1; simp at h; exact absurd h.1 h1
  split at h
  · rename_i h1; simp at h; exact absurd h.1 h1
  · rename_i hE hC
    simp only [Prod.mk.injEq, true_and] at h
    obtain ⟨rfl, rfl⟩ := h
    have hE' : endT s3 e3 = 0 := by simpa using hE
    have he3 : e3 = 0 ∧ s3.size = 0 := by
      unfold endT at hE'
      split at hE'
      · simp at hE'
      · rename_i h2
        exact ⟨hE', Classical.byContradiction fun h3 => h2 ⟨hE', h3⟩⟩
    obtain ⟨rfl, hs3⟩ := he3
    have hs3' : s3.data.toList = [] := List.eq_nil_of_length_eq_zero (by rw [← Lib.size_eq]; exact hs3)
    obtain ⟨rfl, b3⟩ := many_back (fun h => pod2_back h) _ hD.h3
    obtain ⟨rfl, b2⟩ := upT_back (n := 2) hD.h2
    obtain ⟨_, b1⟩ := take_back (n := 8) hD.h1
    refine ⟨?_, by simpa using hC, hv.1.1, hv.1.2, fun p hp => (hfit.1 p hp).1⟩
    apply list_ext
    rw [tx_toList, enc2L, b1, b2, b3, hs3', List.append_nil, hlen]
theorem dec2_bad (b : ByteArray) (h : (dec2 b).1 ≠ 0) : (dec2 b).2.1 = 0 ∧ (dec2 b).2.2 = [] := by
  obtain ⟨s1, s2, s3, e1, e2, e3, q, n, L, hD⟩ := dec2T_ex b
  rw [dec2_eq hD, dec2E] at h ⊢
  split
  · exact ⟨rfl, rfl⟩
  split
  · exact ⟨rfl, rfl⟩
  · rename_i h1 h2
    rw [if_neg h1, if_neg h2] at h
    exact absurd rfl h
end Go.Proofs.YtmomlgkpdoapoaaGreatDoor.K
namespace Go.Proofs.YtmomlgkpdoapoaaGreatDoor.K
open Go.ChangeShapes Go.WideShapes Go.ChangeAt Go.RowKit

/-! ### put, then taken -/
theorem take_list' (n : Nat) (v : Int) (r : List UInt8) (h : okN n = true) (h0 : 0 ≤ v) (h1 : v < ((256 ^ n : Nat) : Int)) : takeT (tx (be n v.toNat ++ r)) 0 n = (tx r, 0, v) := by
  have := take_list n v.toNat r h
  obtain ⟨m, rfl⟩ := Int.eq_ofNat_of_zero_le h0
  rw [Int.toNat_natCast] at *
  rw [Nat.mod_eq_of_lt (by omega)] at this
  exact this
theorem flag_list (b : Bool) (r : List UInt8) : flagT (tx (be 1 b.toNat ++ r)) 0 = (tx r, 0, b) := by
  have h := take_list 1 b.toNat r (by decide)
  rw [show ((1 : Nat) : Int) = 1 from rfl] at h
  unfold flagT
  rw [h]
  cases b <;> simp
theorem port_list {p : Int × Int} (h : (0 ≤ p.1 ∧ p.1 < 65536) ∧ 0 ≤ p.2 ∧ p.2 < 256) (r : List UInt8) : portT (tx (portL p ++ r)) 0 = (tx r, 0, p) := by
  have h1 := take_list' 2 p.1 (be 1 p.2.toNat ++ r) (by decide) h.1.1 (by rw [show ((256 ^ 2 : Nat) : Int) = 65536 from rfl]; exact h.1.2)
  have h2 := take_list' 1 p.2 r (by decide) h.2.1 (by rw [show ((256 ^ 1 : Nat) : Int) = 256 from rfl]; exact h.2.2)
  rw [portL, List.append_assoc, portT, andT_eq (f := takeF 2) h1, andT_eq (f := takeF 1) h2]
  rfl
theorem env_list {v : ByteArray × ByteArray} (h : v.1.size ≤ 4096 ∧ v.2.size ≤ 4096) (r : List UInt8) : envT (tx (envL v ++ r)) 0 = (tx r, 0, v) := by
  have h1 := text_list v.1 (txtL v.2 ++ r) h.1
  have h2 := text_list v.2 r h.2
  rw [envL, List.append_assoc, envT, andT_eq h1, andT_eq h2]
  rfl
theorem ct3_list {c : Ct} (h : CtOk c) (r : List UInt8) : ct3T (tx (ct3L c ++ r)) 0 = (tx r, 0, c) := by
  have hn := h.name; have hi := h.image; have hlc := h.lc; have hlp := h.lp; have hle := h.le
  have hc0 := h.cpu0; have hc1 := h.cpu1; have hm0 := h.mem0; have hm1 := h.mem1
  have h10 := many_list (f := envT) (g := envL) c.env r (fun v hv r => env_list (by have := h.env v hv; omega) r)
  have h9 := upT_list 1 c.env.length 16 (c.env.flatMap envL ++ r) (by decide) (by rw [show 256 ^ 1 = 256 from rfl]; omega) (by omega)
  have h8 := take_list' 4 c.mem (be 1 c.env.length ++ (c.env.flatMap envL ++ r)) (by decide) (by omega) (by rw [show ((256 ^ 4 : Nat) : Int) = 4294967296 from rfl]; omega)
  have h7 := take_list' 4 c.cpu (be 4 c.mem.toNat ++ (be 1 c.env.length ++ (c.env.flatMap envL ++ r))) (by decide) (by omega) (by rw [show ((256 ^ 4 : Nat) : Int) = 4294967296 from rfl]; omega)
  have h6 := many_list (f := portT) (g := portL) c.ports (be 4 c.cpu.toNat ++ (be 4 c.mem.toNat ++ (be 1 c.env.length ++ (c.env.flatMap envL ++ r)))) (fun p hp r => port_list (by have := h.ports p hp; omega) r)
  have h5 := upT_list 1 c.ports.length 16 (c.ports.flatMap portL ++ (be 4 c.cpu.toNat ++ (be 4 c.mem.toNat ++ (be 1 c.env.length ++ (c.env.flatMap envL ++ r))))) (by decide) (by rw [show 256 ^ 1 = 256 from rfl]; omega) (by omega)
  have h4 := many_list (f := textT) (g := txtL) c.cmd (be 1 c.ports.length ++ (c.ports.flatMap portL ++ (be 4 c.cpu.toNat ++ (be 4 c.mem.toNat ++ (be 1 c.env.length ++ (c.env.flatMap envL ++ r)))))) (fun s hs r => text_list s r (h.cmd s hs))
  have h3 := upT_list 1 c.cmd.length 16 (c.cmd.flatMap txtL ++ (be 1 c.ports.length ++ (c.ports.flatMap portL ++ (be 4 c.cpu.toNat ++ (be 4 c.mem.toNat ++ (be 1 c.env.length ++ (c.env.flatMap envL ++ r))))))) (by decide) (by rw [show 256 ^ 1 = 256 from rfl]; omega) (by omega)
  have h2 := text_list c.image (be 1 c.cmd.length ++ (c.cmd.flatMap txtL ++ (be 1 c.ports.length ++ (c.ports.flatMap portL ++ (be 4 c.cpu.toNat ++ (be 4 c.mem.toNat ++ (be 1 c.env.length ++ (c.env.flatMap envL ++ r)))))))) (by omega)
  have h1 := text_list c.name (txtL c.image ++ (be 1 c.cmd.length ++ (c.cmd.flatMap txtL ++ (be 1 c.ports.length ++ (c.ports.flatMap portL ++ (be 4 c.cpu.toNat ++ (be 4 c.mem.toNat ++ (be 1 c.env.length ++ (c.env.flatMap envL ++ r))))))))) (by omega)
  have hP : Ct3T _ 0 _ _ _ _ _ _ _ _ _ (tx r) 0 0 0 0 0 0 0 0 0 0 (c.cmd.length : Int) (c.ports.length : Int) (c.env.length : Int) c :=
    ⟨h1, h2, h3, by rw [Int.toNat_natCast]; exact h4, h5, by rw [Int.toNat_natCast]; exact h6, h7, h8, h9, by rw [Int.toNat_natCast]; exact h10⟩
  have := ct3T_eq hP
  rw [ct3L]
  simp only [List.append_assoc]
  exact this
theorem pod3_list {p : P3} (h : p.Ok) (r : List UInt8) : pod3T (tx (pod3L p ++ r)) 0 = (tx r, 0, p) := by
  have hf := h.file; have hn := h.pd.name; have hs := h.pd.ns
  have hr0 := h.pd.r0; have hr1 := h.pd.r1; have hg0 := h.pd.g0; have hg1 := h.pd.g1; have hl := h.pd.l1
  have h8 := many_list (f := ct3T) (g := ct3L) p.pd.cs r (fun c hc r => ct3_list (h.pd.cs c hc) r)
  have h7 := upT_list 1 p.pd.cs.length 16 (p.pd.cs.flatMap ct3L ++ r) (by decide) (by rw [show 256 ^ 1 = 256 from rfl]; omega) (by omega)
  have h6 := flag_list p.pd.host (be 1 p.pd.cs.length ++ (p.pd.cs.flatMap ct3L ++ r))
  have h5 := take_list' 2 p.pd.grace (be 1 p.pd.host.toNat ++ (be 1 p.pd.cs.length ++ (p.pd.cs.flatMap ct3L ++ r))) (by decide) (by omega) (by rw [show ((256 ^ 2 : Nat) : Int) = 65536 from rfl]; omega)
  have h4 := take_list' 1 p.pd.restart (be 2 p.pd.grace.toNat ++ (be 1 p.pd.host.toNat ++ (be 1 p.pd.cs.length ++ (p.pd.cs.flatMap ct3L ++ r)))) (by decide) (by omega) (by rw [show ((256 ^ 1 : Nat) : Int) = 256 from rfl]; omega)
  have h3 := text_list p.pd.ns (be 1 p.pd.restart.toNat ++ (be 2 p.pd.grace.toNat ++ (be 1 p.pd.host.toNat ++ (be 1 p.pd.cs.length ++ (p.pd.cs.flatMap ct3L ++ r))))) (by omega)
  have h2 := text_list p.pd.name (txtL p.pd.ns ++ (be 1 p.pd.restart.toNat ++ (be 2 p.pd.grace.toNat ++ (be 1 p.pd.host.toNat ++ (be 1 p.pd.cs.length ++ (p.pd.cs.flatMap ct3L ++ r)))))) (by omega)
  have h1 := text_list p.file (txtL p.pd.name ++ (txtL p.pd.ns ++ (be 1 p.pd.restart.toNat ++ (be 2 p.pd.grace.toNat ++ (be 1 p.pd.host.toNat ++ (be 1 p.pd.cs.length ++ (p.pd.cs.flatMap ct3L ++ r))))))) (by omega)
  have hP : Pod3T _ 0 _ _ _ _ _ _ _ (tx r) 0 0 0 0 0 0 0 0 (p.pd.cs.length : Int) p := ⟨h1, h2, h3, h4, h5, h6, h7, by rw [Int.toNat_natCast]; exact h8⟩
  have := pod3T_eq hP
  rw [pod3L, pd3L]
  simp only [List.append_assoc]
  exact this
theorem dec_enc3 (seq : Int) (l : List P3) (hs0 : 0 ≤ seq) (hs1 : seq ≤ 18446744073709551615) (h : chk3 l = 0) : dec3 (tx (enc3L seq l)) = (0, seq, l) := by
  obtain ⟨hl, hf⟩ := chk3_ok h
  have h1 := take_list' 8 seq (be 2 l.length ++ l.flatMap pod3L) (by decide) hs0 (by rw [show ((256 ^ 8 : Nat) : Int) = 18446744073709551616 from rfl]; omega)
  have h2 := upT_list 2 l.length 1024 (l.flatMap pod3L) (by decide) (by rw [show 256 ^ 2 = 65536 from rfl]; omega) (by omega)
  have h3 := many_list (f := pod3T) (g := pod3L) l [] (fun p hp r => pod3_list (hf p hp) r)
  rw [List.append_nil] at h3
  have hD : Dec3T (tx (enc3L seq l)) (tx (be 2 l.length ++ l.flatMap pod3L)) (tx (l.flatMap pod3L)) (tx []) 0 0 0 seq (l.length : Int) l := ⟨h1, h2, by rw [Int.toNat_natCast]; exact h3⟩
  rw [dec3_eq hD, dec3E, if_neg (by simp [endT, tx_size]), if_neg (by simp [h])]

/-! ### taken, then put -/
theorem flag_back {s s1 : ByteArray} {e : Int} {b : Bool} (h : flagT s e = (s1, 0, b)) : e = 0 ∧ s.data.toList = be 1 b.toNat ++ s1.data.toList := by
  obtain ⟨t, d, v, ht⟩ : ∃ t d v, takeT s e 1 = (t, d, v) := ⟨_, _, _, rfl⟩
  have hv := take_val s e 1
  rw [show ((1 : Nat) : Int) = 1 from rfl, ht] at hv
  unfold flagT at h
  rw [ht] at h
  dsimp only at h hv
  split at h
  · simp at h
  · rename_i h1
    simp only [Prod.mk.injEq] at h
    obtain ⟨rfl, rfl, rfl⟩ := h
    obtain ⟨h2, h3⟩ := take_back (n := 1) ht
    refine ⟨h2, ?_⟩
    rw [h3]
    have : v = 0 ∨ v = 1 := by omega
    rcases this with rfl | rfl <;> rfl
theorem port_back {s s1 : ByteArray} {e : Int} {p : Int × Int} (h : portT s e = (s1, 0, p)) : e = 0 ∧ s.data.toList = portL p ++ s1.data.toList := by
  obtain ⟨t1, d1, x1, h1⟩ : ∃ t1 d1 x1, takeT s e 2 = (t1, d1, x1) := ⟨_, _, _, rfl⟩
  obtain ⟨t2, d2, x2, h2⟩ : ∃ t2 d2 x2, takeT t1 d1 1 = (t2, d2, x2) := ⟨_, _, _, rfl⟩
  rw [portT, andT_eq (f := takeF 2) h1, andT_eq (f := takeF 1) h2] at h
  simp only [retT, Prod.mk.injEq] at h
  obtain ⟨rfl, rfl, rfl⟩ := h
  obtain ⟨rfl, b2⟩ := take_back (n := 1) h2
  obtain ⟨h0, b1⟩ := take_back (n := 2) h1
  refine ⟨h0, ?_⟩
  rw [b1, b2, portL]
  simp only [List.append_assoc]
theorem env_back {s s1 : ByteArray} {e : Int} {p : ByteArray × ByteArray} (h : envT s e = (s1, 0, p)) : e = 0 ∧ s.data.toList = envL p ++ s1.data.toList := by
  obtain ⟨t1, d1, x1, h1⟩ : ∃ t1 d1 x1, textT s e = (t1, d1, x1) := ⟨_, _, _, rfl⟩
  obtain ⟨t2, d2, x2, h2⟩ : ∃ t2 d2 x2, textT t1 d1 = (t2, d2, x2) := ⟨_, _, _, rfl⟩
  rw [envT, andT_eq h1, andT_eq h2] at h
  simp only [retT, Prod.mk.injEq] at h
  obtain ⟨rfl, rfl, rfl⟩ := h
  obtain ⟨rfl, b2⟩ := text_back h2
  obtain ⟨h0, b1⟩ := text_back h1
  refine ⟨h0, ?_⟩
  rw [b1, b2, envL]
  simp only [List.append_assoc]
theorem ct3_back {s t : ByteArray} {e : Int} {c : Ct} (h : ct3T s e = (t, 0, c)) : e = 0 ∧ s.data.toList = ct3L c ++ t.data.toList := by
  obtain ⟨s1, s2, s3, s4, s5, s6, s7, s8, s9, t', e1, e2, e3, e4, e5, e6, e7, e8, e9, f, n1, n2, n3, c', hT⟩ := ct3T_ex s e
  obtain ⟨l1, l2, l3⟩ := hT.lens
  rw [ct3T_eq hT] at h
  simp only [Prod.mk.injEq] at h
  obtain ⟨rfl, rfl, rfl⟩ := h
  obtain ⟨rfl, b10⟩ := many_back (fun h => env_back h) _ hT.h10
  obtain ⟨rfl, b9⟩ := upT_back (n := 1) hT.h9
  obtain ⟨rfl, b8⟩ := take_back (n := 4) hT.h8
  obtain ⟨rfl, b7⟩ := take_back (n := 4) hT.h7
  obtain ⟨rfl, b6⟩ := many_back (fun h => port_back h) _ hT.h6
  obtain ⟨rfl, b5⟩ := upT_back (n := 1) hT.h5
  obtain ⟨rfl, b4⟩ := many_back (g := txtL) (fun h => text_back h) _ hT.h4
  obtain ⟨rfl, b3⟩ := upT_back (n := 1) hT.h3
  obtain ⟨rfl, b2⟩ := text_back hT.h2
  obtain ⟨h0, b1⟩ := text_back hT.h1
  refine ⟨h0, ?_⟩
  rw [b1, b2, b3, b4, b5, b6, b7, b8, b9, b10, ct3L, l1, l2, l3]
  simp only [List.append_assoc]
theorem pod3_back {s t : ByteArray} {e : Int} {p : P3} (h : pod3T s e = (t, 0, p)) : e = 0 ∧ s.data.toList = pod3L p ++ t.data.toList := by
  obtain ⟨s1, s2, s3, s4, s5, s6, s7, t', e1, e2, e3, e4, e5, e6, e7, f, n, p', hT⟩ := pod3T_ex s e
  have l1 := hT.len
  rw [pod3T_eq hT] at h
  simp only [Prod.mk.injEq] at h
  obtain ⟨rfl, rfl, rfl⟩ := h
  obtain ⟨rfl, b8⟩ := many_back (fun h => ct3_back h) _ hT.h8
  obtain ⟨rfl, b7⟩ := upT_back (n := 1) hT.h7
  obtain ⟨rfl, b6⟩ := flag_back hT.h6
  obtain ⟨rfl, b5⟩ := take_back (n := 2) hT.h5
  obtain ⟨rfl, b4⟩ := take_back (n := 1) hT.h4
  obtain ⟨rfl, b3⟩ := text_back hT.h3
  obtain ⟨rfl, b2⟩ := text_back hT.h2
  obtain ⟨h0, b1⟩ := text_back hT.h1
  refine ⟨h0, ?_⟩
  rw [b1, b2, b3, b4, b5, b6, b7, b8, pod3L, pd3L, l1]
  simp only [List.append_assoc]
theorem enc_dec3 {b : ByteArray} {q : Int} {L : List P3} (h : dec3 b = (0, q, L)) : tx (enc3L q L) = b ∧ chk3 L = 0 ∧ 0 ≤ q ∧ q ≤ 18446744073709551615 ∧ ∀ p ∈ L, P3Fit p := by
  obtain ⟨s1, s2, s3, e1, e2, e3, q', n, L', hD⟩ := dec3T_ex b
  have hv := hD.vals
  have hfit := dec3_fit b
  have hlen := hD.fit.2
  rw [h] at hfit
  rw [dec3_eq hD, dec3E] at h
  split at h
  · rename_i h1; simp at h; exact absurd h.1 h1
  split at h
  · rename_i h1; simp at h; exact absurd h.1 h1
  · rename_i hE hC
    simp only [Prod.mk.injEq, true_and] at h
    obtain ⟨rfl, rfl⟩ := h
    have hE' : endT s3 e3 = 0 := by simpa using hE
    have he3 : e3 = 0 ∧ s3.size = 0 := by
      unfold endT at hE'
      split at hE'
      · simp at hE'
      · rename_i h2
        exact ⟨hE', Classical.byContradiction fun h3 => h2 ⟨hE', h3⟩⟩
    obtain ⟨rfl, hs3⟩ := he3
    have hs3' : s3.data.toList = [] := List.eq_nil_of_length_eq_zero (by rw [← Lib.size_eq]; exact hs3)
    obtain ⟨rfl, b3⟩ := many_back (fun h => pod3_back h) _ hD.h3
    obtain ⟨rfl, b2⟩ := upT_back (n := 2) hD.h2
    obtain ⟨_, b1⟩ := take_back (n := 8) hD.h1
    refine ⟨?_, by simpa using hC, hv.1.1, hv.1.2, hfit.1⟩
    apply list_ext
    rw [tx_toList, enc3L, b1, b2, b3, hs3', List.append_nil, hlen]
end Go.Proofs.YtmomlgkpdoapoaaGreatDoor.K
namespace Go.Proofs.YtmomlgkpdoapoaaGreatDoor.K
open Go.ChangeShapes Go.WideShapes Go.ChangeAt Go.RowKit

def maskE (acc : Array Nat) (m : Nat) (e : Edge) : Nat := if Region.binds .any e then m ||| (1 <<< e.on) ||| acc.getD e.on 0 else m
def maskOf (acc : Array Nat) (o : Oper) : Nat := o.after.toList.foldl (maskE acc) 0
def masksN (ops : Array Oper) : Nat → Array Nat
  | 0 => #[]
  | n + 1 => (masksN ops n).push (match ops[n]? with | some o => maskOf (masksN ops n) o | none => 0)
def waitsM (ops : Array Oper) (i k : Nat) : Bool := ((masksN ops ops.size).getD i 0).testBit k
theorem masksN_size (ops : Array Oper) : ∀ n, (masksN ops n).size = n
  | 0 => rfl
  | n + 1 => by rw [masksN, Array.size_push, masksN_size ops n]
theorem masksN_get (ops : Array Oper) {i : Nat} : ∀ n, i < n → (masksN ops n).getD i 0 = (match ops[i]? with | some o => maskOf (masksN ops i) o | none => 0)
  | 0, h => absurd h (Nat.not_lt_zero i)
  | n + 1, h => by
    rw [masksN]
    by_cases e : i = n
    · subst e
      rw [Array.getD_eq_getD_getElem?, Array.getElem?_push, if_pos (masksN_size ops i).symm]; rfl
    · have ih := masksN_get ops n (show i < n by omega)
      rw [← ih]
      have hs := masksN_size ops n
      simp [Array.getD_eq_getD_getElem?, Array.getElem?_push, hs, e]
theorem maskE_bit {acc : Array Nat} {k : Nat} : ∀ (l : List Edge) (m : Nat), (l.foldl (maskE acc) m).testBit k = true → m.testBit k = true ∨ ∃ e ∈ l, Region.binds .any e = true ∧ (e.on = k ∨ (acc.getD e.on 0).testBit k = true)
  | [], m, h => .inl h
  | e :: l, m, h => by
    rcases maskE_bit l _ h with h1 | ⟨e2, he, h2⟩
    · unfold maskE at h1
      split at h1
      · rename_i hb
        rw [Nat.testBit_or, Nat.testBit_or, Bool.or_eq_true, Bool.or_eq_true] at h1
        rcases h1 with (h1 | h1) | h1
        · exact .inl h1
        · refine .inr ⟨e, List.mem_cons_self, hb, .inl ?_⟩
          rw [Nat.one_shiftLeft, Nat.testBit_two_pow] at h1
          simpa using h1
        · exact .inr ⟨e, List.mem_cons_self, hb, .inr h1⟩
      · exact .inl h1
    · exact .inr ⟨e2, List.mem_cons_of_mem _ he, h2⟩
theorem waitsM_spec {ops : Array Oper} {k : Nat} {done : Array Bool} (hc : FClosed ops done) : ∀ (j : Nat) (oj : Oper), waitsM ops j k = true → ops[j]? = some oj → (∀ e ∈ oj.after, Region.binds .any e = true → done.getD e.on false = true) → done.getD k false = true := by
  intro j
  induction j using Nat.strongRecOn with
  | _ j ih =>
    intro oj h hj hall
    have hlt : j < ops.size := (Array.getElem?_eq_some_iff.1 hj).1
    unfold waitsM at h
    rw [masksN_get ops ops.size hlt, hj] at h
    rcases maskE_bit _ _ h with h1 | ⟨e, he, hb, h2⟩
    · simp at h1
    · have hd := hall e (by simpa using he) hb
      rcases h2 with h2 | h2
      · rw [← h2]; exact hd
      · have hej : e.on < j := by
          rcases Nat.lt_or_ge e.on j with h3 | h3
          · exact h3
          · have hs := masksN_size ops j
            rw [Array.getD_eq_getD_getElem?, Array.getElem?_eq_none (by omega)] at h2
            simp at h2
        have hes : e.on < ops.size := by omega
        have ho : ops[e.on]? = some ops[e.on] := Array.getElem?_eq_getElem hes
        refine ih e.on hej ops[e.on] ?_ ho (hc e.on _ ho hd)
        unfold waitsM
        rw [masksN_get ops ops.size hes]
        rw [masksN_get ops j hej] at h2
        exact h2
section
variable {P : Program} {Q : Exit → Act → World → Prop}
/-- Slot t is as it was when operation i comes up. -/
def stillM (ops : Array Oper) (i t : Nat) : Bool := (List.range ops.size).all fun j => !(dstOf ops j == some t) || j == i || waitsM ops j i
/-- What operation i does, whenever it comes up. -/
def FStepM (P : Program) (ops : Array Oper) (R : Nat → Value → World → Prop) (A0 : Act) (w0 : World) (i : Nat) (o : Oper) : Prop :=
  ∀ (a : Act) (w : World), Fresh w0 w → (∀ j d, waitsM ops i j = true → dstOf ops j = some d → R j (a.eval (.tmp d)) w) → (∀ t, stillM ops i t = true → a.eval (.tmp t) = A0.eval (.tmp t)) →
    (∃ v w', (execOp a.eval o).run P w = .ok (.value v) w' ∧ Fresh w w' ∧ R i v w') ∨ (∃ f args, (execOp a.eval o).run P w = .ok (.enter f args) w ∧ Calls P f args w fun e w' => ∃ v, e = .returned v ∧ Fresh w w' ∧ R i v w')
theorem flowM_any {ops : Array Oper} {R : Nat → Value → World → Prop} {A0 : Act} {w0 : World} (hb : flowB ops A0.tmps.size = true) (hst : ∀ i v w w', R i v w → Fresh w w' → R i v w')
    (hs : ∀ i o, ops[i]? = some o → FStepM P ops R A0 w0 i o)
    (hQ : ∀ a w, Flow ops R A0 w0 (Array.replicate ops.size true) a w → Q .normal a w) :
    ∀ (f : Nat) (done : Array Bool) (a : Act) (w : World), Flow ops R A0 w0 done a w → (List.range ops.size).countP (fun j => !done.getD j true) ≤ f → wpAny P .any ops Q f done a w := by
  have hend : ∀ (done : Array Bool) (a : Act) (w : World), Flow ops R A0 w0 done a w → (∀ i, i < ops.size → done.getD i false = true) → Q .normal a w := fun done a w h hall => by
    refine hQ a w ?_
    have e : done = Array.replicate ops.size true := by
      apply Array.ext (by rw [h.dsz]; simp)
      intro i h1 h2
      have := hall i (by rw [← h.dsz]; exact h1)
      simpa [h1] using this
    rw [← e]; exact h
  intro f
  induction f with
  | zero =>
    intro done a w h hf
    have hall : ∀ i, i < ops.size → done.getD i false = true := fun i hi => by
      have h0 : (List.range ops.size).countP (fun j => !done.getD j true) = 0 := by omega
      have := List.countP_eq_zero.1 h0 i (List.mem_range.2 hi)
      have h2 : i < done.size := by rw [h.dsz]; exact hi
      simp [h2] at this ⊢; exact this
    refine ⟨?_, hend done a w h hall⟩
    refine List.eq_nil_iff_forall_not_mem.2 (fun i hi => ?_)
    obtain ⟨h0, o, ho, _⟩ := mem_ready.1 hi
    have hlt : i < ops.size := (Array.getElem?_eq_some_iff.1 ho).1
    have h1 := hall i hlt
    have h2 : i < done.size := by rw [h.dsz]; exact hlt
    simp [h2] at h0 h1
    rw [h0] at h1; cases h1
  | succ f ih =>
    intro done a w h hf
    refine ⟨fun e => hend done a w h (all_of_ready hb h.dsz e), fun i hi => ?_⟩
    obtain ⟨h0, o, ho, hall⟩ := mem_ready.1 hi
    have hlt : i < ops.size := (Array.getElem?_eq_some_iff.1 ho).1
    have hld : i < done.size := by rw [h.dsz]; exact hlt
    obtain ⟨hg, ⟨d, hd, hdn⟩, hlow, hne⟩ := flow_oper hb ho
    have hdi : dstOf ops i = some d := by simp [dstOf, ho, hd]
    have h00 : done.getD i false = false := by simp [hld] at h0 ⊢; exact h0
    have hset : ∀ j, (done.setIfInBounds i true).getD j false = true → j = i ∨ done.getD j false = true := fun j hj => by
      by_cases e : i = j
      · exact .inl e.symm
      · rw [getD_set_ne false e] at hj; exact .inr hj
    have key : ∀ (v : Value) (w' : World), Fresh w w' → R i v w' → wpAny P .any ops Q f (done.setIfInBounds i true) (a.put o.dst v) w' := fun v w' hf' hv => by
      refine ih _ _ _ ⟨by rw [put_size]; exact h.size, by rw [put_defers]; exact h.defers, h.fr.trans hf', ?_, by rw [Array.size_setIfInBounds]; exact h.dsz, fun t ht => ?_, fun j e hj he => ?_⟩ ?_
      · intro k p hk hkd e he hbe
        rcases hset k hkd with rfl | h2
        · rw [ho] at hk; cases hk; exact getD_set_true (hall e he hbe)
        · exact getD_set_true (h.closed k p hk h2 e he hbe)
      · have hti : d ≠ t := fun e => ht i (by simp [hld]) (by rw [hdi, e])
        rw [hd, ev_ne hti]
        exact h.same t (fun j hj => ht j (getD_set_true hj))
      · by_cases e2 : i = j
        · subst e2
          rw [hdi] at he; cases he
          rw [hd, ev_same (by rw [h.size]; exact hdn)]
          exact hv
        · rw [getD_set_ne false e2] at hj
          have hjs : j < ops.size := by rw [← h.dsz]; exact getD_lt hj
          have hdne : d ≠ e := fun e3 => hne j hjs e2 (by rw [hdi, he, e3])
          rw [hd, ev_ne hdne]
          exact hst j _ w w' (h.res j e hj he) hf'
      · have := countP_less (p := fun j => !done.getD j true) (q := fun j => !(done.setIfInBounds i true).getD j true) (List.range ops.size) (fun x _ hx => by
          by_cases e : i = x
          · subst e; simp [hld] at hx
          · rw [getD_set_ne true e] at hx; exact hx) i (List.mem_range.2 hlt) (by simp [h0]) (by simp [hld])
        omega
    have hs' := hs i o ho a w h.fr (fun j e hj he => h.res j e (waitsM_spec h.closed i o hj ho hall) he) (fun t ht => h.same t (fun j hj he => by
      have hjs : j < ops.size := by rw [← h.dsz]; exact getD_lt hj
      have := List.all_eq_true.1 ht j (List.mem_range.2 hjs)
      simp only [he, beq_self_eq_true, Bool.not_true, Bool.false_or, Bool.or_eq_true, beq_iff_eq] at this
      rcases this with e | e
      · subst e; rw [h00] at hj; cases hj
      · have hjo : ops[j]? = some ops[j] := Array.getElem?_eq_getElem hjs
        have := waitsM_spec h.closed j ops[j] e hjo (h.closed j _ hjo hj)
        rw [h00] at this; cases this))
    rcases hs' with ⟨v, w', hr, hf', hv⟩ | ⟨fn, args, hr, hc⟩
    · exact wpOp_run ho hg hr (key v w' hf' hv)
    · exact wpOp_call2 ho hg hr hc (fun e w' ⟨v, he, hf', hv⟩ => ⟨v, he, key v w' hf' hv⟩)
/-- THE REGION: its operations' values known ahead, those apart that 'S' speaks of. -/
theorem flowM_region {id : Nat} {ops : Array Oper} {A0 : Act} {w : World} (vs : List (Option Value)) (S : Nat → Value → World → Prop) (hm : P.follows .mixedOrders = true)
    {n : Nat} (hn : A0.tmps.size = n) (hb : flowB ops n = true) (hS : ∀ i v w w', S i v w → Fresh w w' → S i v w')
    (hs : AllFrom (FStepM P ops (Rel vs S) A0 w.drew) 0 ops.toList)
    (hQ : ∀ a w', a.tmps.size = n → a.defers = A0.defers → Fresh w.drew w' → (∀ t, ((List.range ops.size).all fun j => !(dstOf ops j == some t)) = true → a.eval (.tmp t) = A0.eval (.tmp t)) → (∀ j d, dstOf ops j = some d → Rel vs S j (a.eval (.tmp d)) w') → Q .normal a w') : (Code.region id ops true).wp P Q A0 w := by
  subst hn
  refine wp_region_any hm (flowM_any (R := Rel vs S) (w0 := w.drew) hb (Rel.move hS) (fun i o ho => ?_) (fun a w' h => ?_) _ _ _ _ ⟨rfl, rfl, .refl _, fun k o _ hk => ?_, by simp, fun t _ => rfl, fun j d hj => ?_⟩ ?_)
  · have := allFrom_spec ops.toList 0 hs i o (by simpa using ho)
    rwa [Nat.zero_add] at this
  · have hdone : ∀ j d, dstOf ops j = some d → (Array.replicate ops.size true).getD j false = true := fun j d hd => by
      have : j < ops.size := by
        rcases Nat.lt_or_ge j ops.size with h1 | h1
        · exact h1
        · simp [dstOf, Array.getElem?_eq_none h1] at hd
      simp [this]
    refine hQ a w' h.size h.defers h.fr (fun t ht => h.same t (fun j hj he => ?_)) (fun j d hd => h.res j d (hdone j d hd) hd)
    have hjs : j < ops.size := by
      have := getD_lt hj
      simpa using this
    have := List.all_eq_true.1 ht j (List.mem_range.2 hjs)
    rw [he] at this
    simp at this
  · exfalso
    have h1 := getD_lt hk
    simp at h1
    simp [h1] at hk
  · exfalso
    have h1 := getD_lt hj
    simp at h1
    simp [h1] at hj
  · have := List.countP_le_length (p := fun j => !(Array.replicate ops.size false).getD j true) (l := List.range ops.size)
    simpa using this
end
end Go.Proofs.YtmomlgkpdoapoaaGreatDoor.K

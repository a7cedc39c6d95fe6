/-
  A pod that came in, opened: where its rows lie; how great it is.
  States of version 3 that came in, opened: where their rows lie; how great they are.
  States of version 2: what their rows and the document's own share.
  A state of version 2, as the document has it: the same texts and numbers, in rows of its own.
  Old states made new, by what they hold. No call.
-/
import Derived.Test.YtldncgelghcjeaaGreatDoorCat02
import Derived.Deep.Slices
import Derived.SizedLaws
import Derived.ChangeSame
import Derived.Test.YtldncgelghcjeaaGreatDoorCat26
import Derived.Test.YtldncgelghcjeaaGreatDoorCat01
import Derived.Test.YtldncgelghcjeaaGreatDoorCat05
set_option linter.unusedSimpArgs false
set_option linter.unusedVariables false
namespace Go.Proofs.YtldncgelghcjeaaGreatDoor
open Go.ChangeShapes Go.WideShapes Go.ChangeAt Go.RowKit Go.Deep

theorem bulk_one {H : Type} (d : DataW H) : 1 ≤ Rows.uptoBulk d := by
  cases d with
  | lit l => cases l <;> simp [Rows.uptoBulk]
  | nil => simp [Rows.uptoBulk]
  | ptr d => simp [Rows.uptoBulk]
  | slice elems spare => simp [Rows.uptoBulk]
  | agg parts => simp [Rows.uptoBulk]
  | iface t d => simp [Rows.uptoBulk]
  | map entries => simp [Rows.uptoBulk]
  | held h => simp [Rows.uptoBulk]
theorem bulk_part {H : Type} {d : DataW H} {l : List (DataW H)} (h : d ∈ l) : Rows.uptoBulk d ≤ Rows.uptoBulkAll l := by
  induction l with
  | nil => cases h
  | cons x r ih =>
    simp only [Rows.uptoBulkAll]
    cases List.mem_cons.1 h with
    | inl e => subst e; omega
    | inr e => have := ih e; omega
theorem bulk_len {H : Type} (l : List (DataW H)) : l.length ≤ Rows.uptoBulkAll l := by
  induction l with
  | nil => simp
  | cons x r ih => have := bulk_one x; simp only [Rows.uptoBulkAll, List.length_cons]; omega
theorem cells_int : Tryz.prog.cellsOf 3 = 1 := by kernel_rfl
theorem cells_int64 : Tryz.prog.cellsOf 2 = 1 := by kernel_rfl
theorem cells_bool : Tryz.prog.cellsOf 4 = 1 := by kernel_rfl
theorem cells_str : Tryz.prog.cellsOf 9 = 1 := by kernel_rfl
theorem cells_res : Tryz.prog.cellsOf 38 = 1 := by kernel_rfl
theorem cells_pro : Tryz.prog.cellsOf 127 = 1 := by kernel_rfl
theorem cells_port : Tryz.prog.cellsOf 129 = 2 := by kernel_rfl
theorem cells_env : Tryz.prog.cellsOf 130 = 2 := by kernel_rfl
theorem cells_cont : Tryz.prog.cellsOf 126 = 7 := by kernel_rfl
theorem cells_pod : Tryz.prog.cellsOf 41 = 6 := by kernel_rfl
theorem cells_sstr : Tryz.prog.cellsOf 111 = 1 := by kernel_rfl
theorem cells_sport : Tryz.prog.cellsOf 123 = 1 := by kernel_rfl
theorem cells_senv : Tryz.prog.cellsOf 124 = 1 := by kernel_rfl
theorem cells_scont : Tryz.prog.cellsOf 39 = 1 := by kernel_rfl
/-- A slice's row, its elements read by 'each'. -/
theorem open_rows {H : Type} {enc : TypeId × Value → H} {W : World} {fuel : Nat} {α : Type} [Inhabited α] {t e k : Nat} (cell : α → List Value) (P : α → DataW H → Prop) (hk : ∀ y, (cell y).length = k) (hkp : 0 < k) (ht : Tryz.prog.underlying t = some (.slice e)) (hc : Tryz.prog.cellsOf e = k)
    (each : ∀ n cs' d pl, DataW.trod enc Tryz.prog W 0 (fun _ => true) true n e cs' = some (d, pl) → ∃ y, cs' = cell y ∧ P y d) {cs : List Value} {x : DataW H × List MemPlace} (h : DataW.trod enc Tryz.prog W 0 (fun _ => true) true fuel t cs = some x) :
    ∃ (l : List α) (a : Option Addr) (cap : Nat), cs = [.slice a l.length cap] ∧ RowAt W a (l.flatMap cell) ∧ (∀ y ∈ l, ∃ d, P y d ∧ Rows.uptoBulk d ≤ Rows.uptoBulk x.1) ∧ l.length ≤ Rows.uptoBulk x.1 ∧ l.length ≤ cap := by
  rcases open_slice ht h with ⟨rfl, rfl⟩ | ⟨ad, len, cap, m, n, D, Pl, rfl, _, hlc, hcm, hm, rfl, hx⟩
  · exact ⟨[], none, 0, rfl, RowAt.nil _ _, (fun y h => absurd h List.not_mem_nil), Nat.zero_le _, Nat.zero_le _⟩
  · simp only [if_true] at hm
    rw [hm] at hx
    rw [hc] at hx
    have hlm := hlc
    have get : ∀ i, i < len → ∃ y : α, (∀ j v, (cell y)[j]? = some v → W.cell? ((ad.add (i * k)).add j) = some v) ∧ P y (D i) := fun i hi => by
      obtain ⟨cs', h1, h2⟩ := hx i (by omega)
      obtain ⟨_, hlen, hcell⟩ := World.cells?_some h1
      obtain ⟨y, rfl, hp⟩ := each _ _ _ _ h2
      refine ⟨y, fun j v hj => ?_, hp⟩
      have hj3 := (List.getElem?_eq_some_iff.1 hj).1
      rw [hcell j (by rw [← hk y]; exact hj3)]
      exact hj
    obtain ⟨q, hq⟩ := choose_lt get
    have hll : ((List.range len).map q).length = len := by simp
    refine ⟨(List.range len).map q, some ad, cap, by rw [hll], ?_, ?_, ?_, by rw [hll]; exact hlc⟩
    · by_cases h0 : len = 0
      · subst h0; exact .nil _ _
      · obtain ⟨b, off, spot⟩ := ad
        have hc0 : ∃ v, (cell (q 0))[0]? = some v := ⟨_, List.getElem?_eq_getElem (by rw [hk]; exact hkp)⟩
        obtain ⟨v0, hv0⟩ := hc0
        obtain rfl : spot = none := by
          have := World.cell?_spot ((hq 0 (by omega)).1 0 v0 hv0)
          simpa [Addr.add] using this
        refine .inr ⟨b, off, rfl, fun j v hj => ?_⟩
        have hjl : j < len * k := by
          have := (List.getElem?_eq_some_iff.1 hj).1
          rw [flat_length cell k hk, hll] at this
          exact this
        have hi : j / k < len := Nat.div_lt_of_lt_mul (by rw [Nat.mul_comm]; exact hjl)
        have hr : j % k < k := Nat.mod_lt _ hkp
        have hjd : j / k * k + j % k = j := by rw [Nat.mul_comm]; exact Nat.div_add_mod j k
        have hg := flat_get cell k hk ((List.range len).map q) (j / k) (by rw [hll]; exact hi) (j % k) hr
        rw [hjd, hj] at hg
        have he : ((List.range len).map q)[j / k]'(by rw [hll]; exact hi) = q (j / k) := by simp
        rw [he] at hg
        have := (hq (j / k) hi).1 (j % k) v hg.symm
        rw [addr_add, addr_add, Nat.add_assoc, hjd] at this
        exact this
    · intro y hy
      obtain ⟨i, hi, rfl⟩ := List.mem_map.1 hy
      have hi' := List.mem_range.1 hi
      refine ⟨D i, (hq i hi').2, ?_⟩
      have : D i ∈ (List.range len).map D := List.mem_map.2 ⟨i, hi, rfl⟩
      have h2 := bulk_part this
      simp only [Rows.uptoBulk]
      omega
    · rw [hll]
      have := bulk_len ((List.range len).map D)
      simp only [Rows.uptoBulk]
      rw [List.length_map, List.length_range] at this
      omega
theorem open_texts {H : Type} {enc : TypeId × Value → H} {W : World} {fuel : Nat} {cs : List Value} {x : DataW H × List MemPlace} (h : DataW.trod enc Tryz.prog W 0 (fun _ => true) true fuel 111 cs = some x) :
    ∃ (l : List ByteArray) (a : Option Addr) (cap : Nat), cs = [.slice a l.length cap] ∧ RowAt W a (tcells l) ∧ (∀ s ∈ l, s.size ≤ Rows.uptoBulk x.1) ∧ l.length ≤ Rows.uptoBulk x.1 := by
  obtain ⟨l, a, cap, h1, h2, h3, h4, _⟩ := open_rows (α := ByteArray) tcell (fun s d => d = .lit (.string s.data.toList)) (fun _ => rfl) (by decide) Tryz.underlying111 cells_str (fun n cs' d pl h => by
    obtain ⟨s, e1, e2, _⟩ := DataW.trod_string Tryz.underlying9 h
    simp only [Prod.mk.injEq] at e2
    exact ⟨s, e1, e2.1⟩) h
  refine ⟨l, a, cap, h1, h2, fun s hs => ?_, h4⟩
  obtain ⟨d, rfl, hd⟩ := h3 s hs
  simp [Rows.uptoBulk] at hd
  omega
instance : Inhabited (Int × Int) := ⟨(0, 0)⟩
set_option maxRecDepth 100000 in
theorem open_ports {H : Type} {enc : TypeId × Value → H} {W : World} {fuel : Nat} {cs : List Value} {x : DataW H × List MemPlace} (h : DataW.trod enc Tryz.prog W 0 (fun _ => true) true fuel 123 cs = some x) :
    ∃ (l : List (Int × Int)) (a : Option Addr) (cap : Nat), cs = [.slice a l.length cap] ∧ RowAt W a (pcells l) ∧ (∀ p ∈ l, (Lit.int .i64 p.1).wf = true ∧ (Lit.int .i64 p.2).wf = true) ∧ l.length ≤ Rows.uptoBulk x.1 ∧ l.length ≤ cap := by
  obtain ⟨l, a, cap, h1, h2, h3, h4, h5⟩ := open_rows (α := Int × Int) pcell (fun p _ => (Lit.int .i64 p.1).wf = true ∧ (Lit.int .i64 p.2).wf = true) (fun _ => rfl) (by decide) Tryz.underlying123 cells_port (fun n cs' d pl h => by
    obtain ⟨xs, k, hk, hxy, hlen, hxl, hf⟩ := DataW.trod_struct Tryz.underlying129 h
    rw [cells_port] at hlen
    match xs, hxl, cs', hlen with
    | [y0, y1], _, [v0, v1], _ =>
      have g0 := hf 0 _ rfl
      have g1 := hf 1 _ rfl
      simp [cells_int64, cells_pro] at g0 g1
      obtain ⟨k0, e0, f0, w0⟩ := DataW.trod_int Tryz.underlying2 g0
      obtain ⟨k1, e1, f1, w1⟩ := DataW.trod_int Tryz.underlying127 g1
      simp only [List.cons.injEq, and_true] at e0 e1
      subst e0 e1
      exact ⟨(k0, k1), rfl, w0, w1⟩) h
  exact ⟨l, a, cap, h1, h2, fun p hp => (h3 p hp).choose_spec.1, h4, h5⟩
set_option maxRecDepth 100000 in
theorem open_envs {H : Type} {enc : TypeId × Value → H} {W : World} {fuel : Nat} {cs : List Value} {x : DataW H × List MemPlace} (h : DataW.trod enc Tryz.prog W 0 (fun _ => true) true fuel 124 cs = some x) :
    ∃ (l : List (ByteArray × ByteArray)) (a : Option Addr) (cap : Nat), cs = [.slice a l.length cap] ∧ RowAt W a (ecells l) ∧ (∀ p ∈ l, p.1.size ≤ Rows.uptoBulk x.1 ∧ p.2.size ≤ Rows.uptoBulk x.1) ∧ l.length ≤ Rows.uptoBulk x.1 := by
  haveI : Inhabited (ByteArray × ByteArray) := ⟨(⟨#[]⟩, ⟨#[]⟩)⟩
  obtain ⟨l, a, cap, h1, h2, h3, h4, _⟩ := open_rows (α := ByteArray × ByteArray) ecell (fun p d => p.1.size ≤ Rows.uptoBulk d ∧ p.2.size ≤ Rows.uptoBulk d) (fun _ => rfl) (by decide) Tryz.underlying124 cells_env (fun n cs' d pl h => by
    obtain ⟨xs, k, hk, hxy, hlen, hxl, hf⟩ := DataW.trod_struct Tryz.underlying130 h
    rw [cells_env] at hlen
    match xs, hxl, cs', hlen with
    | [y0, y1], _, [v0, v1], _ =>
      have g0 := hf 0 _ rfl
      have g1 := hf 1 _ rfl
      simp [cells_str] at g0 g1
      obtain ⟨k0, e0, f0, _⟩ := DataW.trod_string Tryz.underlying9 g0
      obtain ⟨k1, e1, f1, _⟩ := DataW.trod_string Tryz.underlying9 g1
      simp only [List.cons.injEq, and_true] at e0 e1
      subst e0 e1
      simp only [Prod.mk.injEq] at hxy
      refine ⟨(k0, k1), rfl, ?_, ?_⟩
      · rw [hxy.1, f0, f1]
        simp [Rows.uptoBulk, Rows.uptoBulkAll]
        omega
      · rw [hxy.1, f0, f1]
        simp [Rows.uptoBulk, Rows.uptoBulkAll]
        omega) h
  exact ⟨l, a, cap, h1, h2, fun p hp => by obtain ⟨d, h5, h6⟩ := h3 p hp; exact ⟨by omega, by omega⟩, h4⟩
set_option maxRecDepth 100000 in
set_option maxHeartbeats 1000000 in
theorem open_cont {H : Type} {enc : TypeId × Value → H} {W : World} {fuel : Nat} {cs : List Value} {d : DataW H} {pl : List MemPlace} (h : DataW.trod enc Tryz.prog W 0 (fun _ => true) true fuel 126 cs = some (d, pl)) :
    ∃ m : CM, cs = m.cells ∧ m.In W ∧ (Rows.uptoBulk d ≤ 1048576 → m.c.Low) := by
  obtain ⟨xs, k, hk, hxy, hlen, hxl, hf⟩ := DataW.trod_struct Tryz.underlying126 h
  rw [cells_cont] at hlen
  match xs, hxl, cs, hlen with
  | [y0, y1, y2, y3, y4, y5, y6], _, [v0, v1, v2, v3, v4, v5, v6], _ =>
    have g0 := hf 0 _ rfl
    have g1 := hf 1 _ rfl
    have g2 := hf 2 _ rfl
    have g3 := hf 3 _ rfl
    have g4 := hf 4 _ rfl
    have g5 := hf 5 _ rfl
    have g6 := hf 6 _ rfl
    simp [cells_str, cells_int64, cells_sstr, cells_sport, cells_senv] at g0 g1 g2 g3 g4 g5 g6
    obtain ⟨k0, e0, f0, _⟩ := DataW.trod_string Tryz.underlying9 g0
    obtain ⟨k1, e1, f1, _⟩ := DataW.trod_string Tryz.underlying9 g1
    obtain ⟨k2, a2, c2, e2, r2, b2, n2⟩ := open_texts g2
    obtain ⟨k3, a3, c3, e3, r3, b3, n3, o3⟩ := open_ports g3
    obtain ⟨k4, e4, f4, w4⟩ := DataW.trod_int Tryz.underlying2 g4
    obtain ⟨k5, e5, f5, w5⟩ := DataW.trod_int Tryz.underlying2 g5
    obtain ⟨k6, a6, c6, e6, r6, b6, n6⟩ := open_envs g6
    simp only [List.cons.injEq, and_true] at e0 e1 e2 e3 e4 e5 e6
    subst e0 e1 e2 e3 e4 e5 e6
    simp only [Prod.mk.injEq] at hxy
    refine ⟨⟨⟨k0, k1, k2, k3, k4, k5, k6⟩, a2, c2, a3, c3, a6, c6⟩, rfl, ⟨r2, r3, r6, o3⟩, fun hb => ?_⟩
    have hall : Rows.uptoBulk y0.1 + (Rows.uptoBulk y1.1 + (Rows.uptoBulk y2.1 + (Rows.uptoBulk y3.1 + Rows.uptoBulk y6.1))) ≤ 1048576 := by
      rw [hxy.1] at hb
      simp only [List.map_cons, List.map_nil, Rows.uptoBulk, Rows.uptoBulkAll] at hb
      omega
    have s0 : k0.size ≤ Rows.uptoBulk y0.1 := by rw [f0]; simp [Rows.uptoBulk]
    have s1 : k1.size ≤ Rows.uptoBulk y1.1 := by rw [f1]; simp [Rows.uptoBulk]
    exact { name := by show k0.size ≤ _; omega, image := by show k1.size ≤ _; omega, lc := by show k2.length ≤ _; omega, lp := by show k3.length ≤ _; omega, le := by show k6.length ≤ _; omega,
            cmd := fun s hs => by have := b2 s hs; omega, env := fun v hv => by have := b6 v hv; omega, icpu := w4, imem := w5, ip := b3 }
set_option maxRecDepth 100000 in
set_option maxHeartbeats 1000000 in
theorem open_pod {H : Type} {enc : TypeId × Value → H} {W : World} {fuel : Nat} {cs : List Value} {d : DataW H} {pl : List MemPlace} (h : DataW.trod enc Tryz.prog W 0 (fun _ => true) true fuel 41 cs = some (d, pl)) :
    ∃ p : PM, cs = p.val.cells.toList ∧ p.At W ∧ (Rows.uptoBulk d ≤ 1048576 → p.Low) := by
  haveI : Inhabited CM := ⟨⟨⟨⟨#[]⟩, ⟨#[]⟩, [], [], 0, 0, []⟩, none, 0, none, 0, none, 0⟩⟩
  obtain ⟨xs, k, hk, hxy, hlen, hxl, hf⟩ := DataW.trod_struct Tryz.underlying41 h
  rw [cells_pod] at hlen
  match xs, hxl, cs, hlen with
  | [y0, y1, y2, y3, y4, y5], _, [v0, v1, v2, v3, v4, v5], _ =>
    have g0 := hf 0 _ rfl
    have g1 := hf 1 _ rfl
    have g2 := hf 2 _ rfl
    have g3 := hf 3 _ rfl
    have g4 := hf 4 _ rfl
    have g5 := hf 5 _ rfl
    simp [cells_str, cells_int64, cells_res, cells_bool, cells_scont] at g0 g1 g2 g3 g4 g5
    obtain ⟨k0, e0, f0, _⟩ := DataW.trod_string Tryz.underlying9 g0
    obtain ⟨k1, e1, f1, _⟩ := DataW.trod_string Tryz.underlying9 g1
    obtain ⟨k2, e2, f2, w2⟩ := DataW.trod_int Tryz.underlying38 g2
    obtain ⟨k3, e3, f3, w3⟩ := DataW.trod_int Tryz.underlying2 g3
    obtain ⟨k4, e4, f4⟩ := DataW.trod_bool Tryz.underlying4 g4
    obtain ⟨l, a, cap, e5, r5, b5, n5, l5⟩ := open_rows (α := CM) CM.cells (fun m d => m.In W ∧ (Rows.uptoBulk d ≤ 1048576 → m.c.Low)) (fun _ => rfl) (by decide) Tryz.underlying39 cells_cont (fun n cs' d pl h => open_cont h) g5
    simp only [List.cons.injEq, and_true] at e0 e1 e2 e3 e4 e5
    subst e0 e1 e2 e3 e4 e5
    simp only [Prod.mk.injEq] at hxy
    refine ⟨⟨k0, k1, k2, k3, k4, a, cap, l⟩, rfl, ⟨r5, fun m hm => by obtain ⟨d, h1, _⟩ := b5 m hm; exact h1.1, l5⟩, fun hb => ?_⟩
    have hall : Rows.uptoBulk y0.1 + (Rows.uptoBulk y1.1 + Rows.uptoBulk y5.1) ≤ 1048576 := by
      rw [hxy.1] at hb
      simp only [List.map_cons, List.map_nil, Rows.uptoBulk, Rows.uptoBulkAll] at hb
      omega
    have s0 : k0.size ≤ Rows.uptoBulk y0.1 := by rw [f0]; simp [Rows.uptoBulk]
    have s1 : k1.size ≤ Rows.uptoBulk y1.1 := by rw [f1]; simp [Rows.uptoBulk]
    exact { name := by show k0.size ≤ _; omega, ns := by show k1.size ≤ _; omega, ir := w2, ig := w3, len := by show l.length ≤ _; omega,
            cs := fun m hm => by obtain ⟨d, h1, h2⟩ := b5 m hm; exact h1.2 (by omega) }
end Go.Proofs.YtldncgelghcjeaaGreatDoor
namespace Go.Proofs.YtldncgelghcjeaaGreatDoor.K
open Go.ChangeShapes Go.WideShapes Go.ChangeAt Go.RowKit Go.Deep
set_option maxRecDepth 100000

theorem cells_u64 : Tryz.prog.cellsOf 22 = 1 := by kernel_rfl
theorem cells_pod3 : Tryz.prog.cellsOf 93 = 7 := by kernel_rfl
theorem cells_spod3 : Tryz.prog.cellsOf 23 = 1 := by kernel_rfl
theorem cells_state3 : Tryz.prog.cellsOf 25 = 2 := by kernel_rfl
theorem u64_of {v : Int} (h : (Lit.int .u64 v).wf = true) : 0 ≤ v ∧ v ≤ 18446744073709551615 := by
  simp [Lit.wf, IntKind.min, IntKind.max, IntKind.signed, IntKind.bits] at h; omega
instance : Inhabited M3 := ⟨⟨⟨#[]⟩, ⟨⟨#[]⟩, ⟨#[]⟩, 0, 0, false, none, 0, []⟩⟩⟩
theorem lo_low {x : M3} (hf : x.file.size ≤ 1048576) (h : x.m.Low) : x.p.Lo where
  file := hf
  name := h.name
  ns := h.ns
  ir := h.ir
  ig := h.ig
  len := by have := h.len; simpa [M3.p, PM.pd] using this
  cs := fun c hc => by
    obtain ⟨m, hm, rfl⟩ := List.mem_map.1 hc
    exact h.cs m hm
theorem open_pod3 {H : Type} {enc : TypeId × Value → H} {W : World} {fuel : Nat} {cs : List Value} {d : DataW H} {pl : List MemPlace} (h : DataW.trod enc Tryz.prog W 0 (fun _ => true) true fuel 93 cs = some (d, pl)) :
    ∃ x : M3, cs = x.cells ∧ x.m.At W ∧ (Rows.uptoBulk d ≤ 1048576 → x.p.Lo) := by
  obtain ⟨xs, k, hk, hxy, hlen, hxl, hf⟩ := DataW.trod_struct Tryz.underlying93 h
  rw [cells_pod3] at hlen
  match xs, hxl, cs, hlen with
  | [y0, y1], _, [v0, v1, v2, v3, v4, v5, v6], _ =>
    have g0 := hf 0 _ rfl
    have g1 := hf 1 _ rfl
    simp [cells_str, cells_pod] at g0 g1
    obtain ⟨k0, e0, f0, _⟩ := DataW.trod_string Tryz.underlying9 g0
    obtain ⟨p, e1, a1, l1⟩ := open_pod g1
    simp only [List.cons.injEq, and_true] at e0
    simp only [Prod.mk.injEq] at hxy
    obtain ⟨p1, p2, p3, p4, p5, p6, p7, p8⟩ := p
    subst e0
    refine ⟨⟨k0, ⟨p1, p2, p3, p4, p5, p6, p7, p8⟩⟩, ?_, a1, fun hb => lo_low ?_ (l1 ?_)⟩
    · have : [v1, v2, v3, v4, v5, v6] = [.string p1, .string p2, .int .i64 p3, .int .i64 p4, .bool p5, .slice p6 p8.length p7] := e1
      simp only [M3.cells]
      rw [this]
    · rw [hxy.1] at hb
      simp only [List.map_cons, List.map_nil, f0, Rows.uptoBulk, Rows.uptoBulkAll] at hb
      show k0.size ≤ _
      rw [Lib.size_eq]; omega
    · rw [hxy.1] at hb
      simp only [List.map_cons, List.map_nil, f0, Rows.uptoBulk, Rows.uptoBulkAll] at hb
      omega
theorem open_st3 {H : Type} {enc : TypeId × Value → H} {W : World} {fuel : Nat} {cs : List Value} {d : DataW H} {pl : List MemPlace} (h : DataW.trod enc Tryz.prog W 0 (fun _ => true) true fuel 25 cs = some (d, pl)) :
    ∃ (seq : Int) (L : List P3) (a : Option Addr) (c : Nat), cs = [.int .u64 seq, .slice a L.length c] ∧ AtL L W a ∧ 0 ≤ seq ∧ seq ≤ 18446744073709551615 ∧ (Rows.uptoBulk d ≤ 1048576 → L.length ≤ 1048576 ∧ ∀ p ∈ L, p.Lo) := by
  obtain ⟨xs, k, hk, hxy, hlen, hxl, hf⟩ := DataW.trod_struct Tryz.underlying25 h
  rw [cells_state3] at hlen
  match xs, hxl, cs, hlen with
  | [y0, y1], _, [v0, v1], _ =>
    have g0 := hf 0 _ rfl
    have g1 := hf 1 _ rfl
    simp [cells_u64, cells_spod3] at g0 g1
    obtain ⟨k0, e0, f0, w0⟩ := DataW.trod_int Tryz.underlying22 g0
    obtain ⟨l, a, cap, e1, r1, b1, n1, l1⟩ := open_rows (α := M3) M3.cells (fun m d => m.m.At W ∧ (Rows.uptoBulk d ≤ 1048576 → m.p.Lo)) (fun _ => rfl) (by decide) Tryz.underlying23 cells_pod3 (fun n cs' d pl h => open_pod3 h) g1
    simp only [List.cons.injEq, and_true] at e0 e1
    subst e0 e1
    simp only [Prod.mk.injEq] at hxy
    obtain ⟨b0, b00⟩ := u64_of w0
    refine ⟨k0, pods3 l, a, cap, by rw [pods3_length], ⟨l, rfl, r1, fun m hm => ?_⟩, b0, b00, fun hb => ?_⟩
    · obtain ⟨d', h1, _⟩ := b1 m hm
      exact h1.1
    · rw [hxy.1] at hb
      simp only [List.map_cons, List.map_nil, Rows.uptoBulk, Rows.uptoBulkAll] at hb
      refine ⟨by rw [pods3_length]; omega, fun p hp => ?_⟩
      obtain ⟨m, hm, rfl⟩ := List.mem_map.1 hp
      obtain ⟨d', h1, h2⟩ := b1 m hm
      exact h1.2 (by omega)
/-- A state among the arguments. -/
theorem arg_st3 {H : Type} {enc : TypeId × Value → H} {W : World} {base : Nat} {v : Value} {d : DataW H} {p : List MemPlace} (ho : Value.okWide Tryz.prog W .any base 25 v) (h : DataW.Trod enc Tryz.prog W 0 (fun _ => true) true 25 v d p) :
    ∃ (seq : Int) (L : List P3) (a : Option Addr) (c : Nat), v = st3 seq a L.length c ∧ AtL L W a ∧ 0 ≤ seq ∧ seq ≤ 18446744073709551615 ∧ (Rows.uptoBulk d ≤ 1048576 → L.length ≤ 1048576 ∧ ∀ p ∈ L, p.Lo) := by
  obtain ⟨cs, rfl, hs⟩ := okWide_struct Tryz.underlying25 ho
  obtain ⟨f, g⟩ := h
  obtain ⟨seq, L, a, c, h1, h2, h3⟩ := open_st3 g
  refine ⟨seq, L, a, c, ?_, h2, h3⟩
  have : cs = #[.int .u64 seq, .slice a L.length c] := Array.toList_inj.1 h1
  rw [this]; rfl
end Go.Proofs.YtldncgelghcjeaaGreatDoor.K
namespace Go.Proofs.YtldncgelghcjeaaGreatDoor.K
open Go.ChangeShapes Go.WideShapes Go.ChangeAt Go.RowKit
set_option maxRecDepth 100000

theorem infoRP2 : (Tryz.prog.info? 164).map (fun i => (i.zero, i.size, i.bytes)) = some (some (.agg #[.string ⟨#[]⟩, .string ⟨#[]⟩, .string ⟨#[]⟩, .int .u8 0, .int .u16 0, .slice none 0 0]), 6, 80) := by kernel_rfl
theorem infoRC2 : (Tryz.prog.info? 165).map (fun i => (i.zero, i.size, i.bytes)) = some (some (.agg #[.string ⟨#[]⟩, .string ⟨#[]⟩]), 2, 32) := by kernel_rfl
theorem info2 : (Tryz.prog.info? 161).map (fun i => (i.zero, i.size, i.bytes)) = some (some (.agg #[.string ⟨#[]⟩, .string ⟨#[]⟩, .string ⟨#[]⟩, .int .u8 0]), 4, 56) := by kernel_rfl
theorem pods2_snoc (D : List M2) (m : M2) : pods2 (D ++ [m]) = pods2 D ++ [m.p] := by simp [pods2]
theorem pods2_length (D : List M2) : (pods2 D).length = D.length := by simp [pods2]
theorem pods2_mem {D : List M2} {m : M2} (h : m ∈ D) : m.p ∈ pods2 D := List.mem_map_of_mem h
end Go.Proofs.YtldncgelghcjeaaGreatDoor.K
namespace Go.Proofs.YtldncgelghcjeaaGreatDoor.K
open Go.ChangeShapes Go.WideShapes Go.ChangeAt Go.RowKit
set_option maxRecDepth 100000

abbrev M2.sl (m : M2) : Value := .slice m.a m.p.cs.length m.c
/-- A pod's containers, in a row of the document's that is owned. -/
def M2.Own (N : Nat) (W : World) (m : M2) : Prop := W.ownsRow N 165 2 m.sl m.p.cs.length (c2s m.p.cs)
structure OS (w W : World) (b : Nat) (seq : Int) (o : Option Addr) (k c : Nat) (D : List M2) : Prop where
  hb : b = w.heap.size
  r : W.heap[b + 1]? = some (.cells #[.int .u64 0, .slice none 0 0] 75)
  st : W.heap[b + 2]? = some (.cells #[.int .u64 seq, .slice o k c] 75)
  row : W.ownsRow (b + 3) 164 6 (.slice o k c) k (m2s D)
  each : ∀ m ∈ D, m.Own (b + 3) W
  fr : Fresh w W
structure OP (w W : World) (b : Nat) (seq : Int) (o : Option Addr) (k c : Nat) (D : List M2) (y : Nat) (pc : Array Value) (a : Option Addr) (n cc : Nat) (cs : List C2) : Prop extends OS w W b seq o k c D where
  hy : b + 2 < y
  p : W.heap[y]? = some (.cells pc 164)
  lowR : ∀ g, (Value.slice o k c).ownBlock = some g → g < y
  lowD : ∀ m ∈ D, ∀ g, m.sl.ownBlock = some g → g < y
  crow : W.ownsRow (y + 1) 165 2 (.slice a n cc) n (c2s cs)
theorem own_kept_ne2 {W W' : World} {B B' e e' k k' n n' : Nat} {v v' : Value} {xs xs' : List Value} (h : W.ownsRow B e k v n xs) (h' : W.ownsRow B' e' k' v' n' xs') (hne : e ≠ e') (hg : W.grownBy W' v'.ownBlock) : W'.ownsRow B e k v n xs :=
  World.ownsRow.kept h hg (own_ne h h' hne)
section
variable {w W W' : World} {b y : Nat} {seq : Int} {o : Option Addr} {k c : Nat} {D : List M2} {pc : Array Value} {a : Option Addr} {n cc : Nat} {cs : List C2}
theorem OS.fresh (h : OS w W b seq o k c D) (f : Fresh W W') : OS w W' b seq o k c D :=
  ⟨h.hb, f.at h.r, f.at h.st, own_fresh h.row f, fun m hm => own_fresh (h.each m hm) f, h.fr.trans f⟩
theorem OP.fresh (h : OP w W b seq o k c D y pc a n cc cs) (f : Fresh W W') : OP w W' b seq o k c D y pc a n cc cs :=
  ⟨h.toOS.fresh f, h.hy, f.at h.p, h.lowR, h.lowD, own_fresh h.crow f⟩
theorem OS.pod (h : OS w W b seq o k c D) (pc : Array Value) : OP w (W.alloc (.cells pc 164)) b seq o k c D W.heap.size pc none 0 0 [] :=
  ⟨h.fresh ((Fresh.refl W).alloc _), lt_of_at h.st, at_new _ _, fun g e => (World.ownsRow.lt h.row g e).2, fun m hm g e => (World.ownsRow.lt (h.each m hm) g e).2, World.ownsRow_nil _ _ _ _⟩
theorem OP.setP (h : OP w W b seq o k c D y pc a n cc cs) (i : Nat) (u : Value) : OP w (W.setCell ⟨y, i, none⟩ u) b seq o k c D y (pc.setIfInBounds i u) a n cc cs := by
  have hy := h.hy
  refine ⟨⟨h.hb, at_off h.r (by omega) _, at_off h.st (by omega) _, ?_, fun m hm => own_type (h.each m hm) h.p (by decide) i u, ?_⟩, h.hy, at_set h.p i u, h.lowR, h.lowD, own_set (p := ⟨y, i, none⟩) h.crow (by show y < y + 1; omega) _⟩
  · refine World.ownsRow.kept h.row (grown_set W y i u) ?_
    rcases h' : (Value.slice o k c).ownBlock with _ | g
    · exact .inl rfl
    · exact .inr (fun e2 => by have := h.lowR g h'; have : g = y := by simpa using e2
                               omega)
  · exact h.fr.setCell (p := ⟨y, i, none⟩) (by show w.heap.size ≤ y; rw [← h.hb]; omega) _
/-- Behind an append to the containers. -/
theorem OP.grownC (h : OP w W b seq o k c D y pc a n cc cs) (hg : W.grownBy W' (Value.slice a n cc).ownBlock) {a' : Option Addr} {n' cc' : Nat} {cs' : List C2} (hr : W'.ownsRow (y + 1) 165 2 (.slice a' n' cc') n' (c2s cs')) : OP w W' b seq o k c D y pc a' n' cc' cs' := by
  have hy := h.hy
  have hlt : ∀ g, (Value.slice a n cc).ownBlock = some g → y + 1 ≤ g := fun g e => (World.ownsRow.lt h.crow g e).1
  have hne : ∀ x, x ≤ y → some x ≠ (Value.slice a n cc).ownBlock := fun x hx e => by have := hlt x e.symm; omega
  have hat : ∀ {x : Nat} {z : Obj}, x ≤ y → W.heap[x]? = some z → W'.heap[x]? = some z := fun {x z} hx hz => (hg.block x (lt_of_at hz) (hne x hx)).trans hz
  refine ⟨⟨h.hb, hat (by omega) h.r, hat (by omega) h.st, own_kept_ne2 h.row h.crow (by decide) hg, fun m hm => ?_, ?_⟩, h.hy, hat (Nat.le_refl _) h.p, h.lowR, h.lowD, hr⟩
  · refine World.ownsRow.kept (h.each m hm) hg ?_
    rcases h' : m.sl.ownBlock with _ | g
    · exact .inl rfl
    · exact .inr (hne g (Nat.le_of_lt (h.lowD m hm g h')))
  · exact h.fr.grown hg (fun g e => by have := hlt g e; have := h.hb; omega)
/-- Behind an append to the pods, and its store. -/
theorem OP.grownP (h : OP w W b seq o k c D y pc a n cc cs) {m : M2} (hma : m.sl = .slice a n cc) (hml : m.p.cs.length = n) (hmc : m.p.cs = cs) (hg : W.grownBy W' (Value.slice o k c).ownBlock) {o' : Option Addr} {c' : Nat}
    (hr : W'.ownsRow (b + 3) 164 6 (.slice o' (k + 1) c') (k + 1) (m2s (D ++ [m]))) : OS w (W'.setCell ⟨b + 2, 1, none⟩ (.slice o' (k + 1) c')) b seq o' (k + 1) c' (D ++ [m]) := by
  have hy := h.hy
  have hlt : ∀ g, (Value.slice o k c).ownBlock = some g → b + 3 ≤ g := fun g e => (World.ownsRow.lt h.row g e).1
  have hat : ∀ {x : Nat} {z : Obj}, x ≤ b + 2 → W.heap[x]? = some z → W'.heap[x]? = some z := fun {x z} hx hz => (hg.block x (lt_of_at hz) (fun e => by have := hlt x e.symm; omega)).trans hz
  refine ⟨h.hb, at_off (hat (by omega) h.r) (by omega) _, at_set (hat (Nat.le_refl _) h.st) 1 _, own_set (p := ⟨b + 2, 1, none⟩) hr (by show b + 2 < b + 3; omega) _, fun x hx => ?_, ?_⟩
  · refine own_set (p := ⟨b + 2, 1, none⟩) ?_ (by show b + 2 < b + 3; omega) _
    rcases List.mem_append.1 hx with hx | hx
    · exact own_kept_ne2 (h.each x hx) h.row (by decide) hg
    · rw [List.mem_singleton.1 hx]
      show W'.ownsRow (b + 3) 165 2 m.sl m.p.cs.length (c2s m.p.cs)
      rw [hma, hml, hmc]
      exact World.ownsRow.mono (base := y + 1) (own_kept_ne2 h.crow h.row (by decide) hg) (by omega)
  · exact (h.fr.grown hg (fun g e => by have := hlt g e; have := h.hb; omega)).setCell (p := ⟨b + 2, 1, none⟩) (by show w.heap.size ≤ b + 2; have := h.hb; omega) _
theorem OP.pc6 {v0 v1 v2 v3 v4 v5 : Value} (h : OP w W b seq o k c D y #[v0, v1, v2, v3, v4, v5] a n cc cs) :
    (W.cell? ⟨y, 0, none⟩ = some v0 ∧ W.cell? ⟨y, 1, none⟩ = some v1 ∧ W.cell? ⟨y, 2, none⟩ = some v2 ∧ W.cell? ⟨y, 3, none⟩ = some v3 ∧ W.cell? ⟨y, 4, none⟩ = some v4 ∧ W.cell? ⟨y, 5, none⟩ = some v5) ∧ W.frozen? ⟨y, 0, none⟩ = false ∧ W.frozen? ⟨y, 1, none⟩ = false ∧ W.frozen? ⟨y, 2, none⟩ = false ∧ W.frozen? ⟨y, 3, none⟩ = false ∧ W.frozen? ⟨y, 4, none⟩ = false ∧ W.frozen? ⟨y, 5, none⟩ = false :=
  ⟨⟨cell_of_at h.p rfl, cell_of_at h.p rfl, cell_of_at h.p rfl, cell_of_at h.p rfl, cell_of_at h.p rfl, cell_of_at h.p rfl⟩, frozen_of_at h.p 0, frozen_of_at h.p 1, frozen_of_at h.p 2, frozen_of_at h.p 3, frozen_of_at h.p 4, frozen_of_at h.p 5⟩
end
/-- What Of answers. -/
def OfIs2 (seq : Int) (l : List P2) (w : World) (r : Ending) (w' : World) : Prop :=
  ∃ a c, ∃ D : List M2, r = .returned (st2 seq a D.length c) ∧ pods2 D = l ∧ w'.ownsRow w.heap.size 164 6 (.slice a D.length c) D.length (m2s D) ∧ (∀ m ∈ D, m.Own w.heap.size w') ∧ Fresh w w'
theorem M2.Own.in {N : Nat} {W : World} {m : M2} (h : m.Own N W) : m.In W := ⟨RowAt.owns h, own_le h⟩
set_option maxHeartbeats 8000000 in
theorem of2_any (seq : Int) (a : Option Addr) (l : List M2) (c : Nat) (w : World) (h : Row2 w a l) (hl : l.length ≤ 4000000) (hcl : ∀ m ∈ l, m.p.cs.length ≤ 4000000) :
    Calls Tryz.prog 28 #[st2 seq a l.length c] w (OfIs2 seq (pods2 l) w) := by
  have HROW := Lib.hid h
  have HCL := Lib.hid hcl
  obtain ⟨i0, hi, hz0, hz1, hz2⟩ := info_parts infoRP2
  obtain ⟨i1, hic, hic0, hic1, hic2⟩ := info_parts infoRC2
  dsimp only [st2]
  clear h hcl
  unfold OfIs2
  have hA := at_new ((w.alloc (.cells #[.int .u64 seq, .slice a l.length c] 66)).alloc (.cells #[.int .u64 0, .slice none 0 0] 75)) (.cells #[.int .u64 seq, .slice none 0 0] 75)
  rw [World.size_alloc, World.size_alloc] at hA
  have hB := at_new (w.alloc (.cells #[.int .u64 seq, .slice a l.length c] 66)) (.cells #[.int .u64 0, .slice none 0 0] 75)
  rw [World.size_alloc] at hB
  have hB := at_alloc (p := .cells #[.int .u64 seq, .slice none 0 0] 75) hB
  have hOS : OS w (((w.alloc (.cells #[.int .u64 seq, .slice a l.length c] 66)).alloc (.cells #[.int .u64 0, .slice none 0 0] 75)).alloc (.cells #[.int .u64 seq, .slice none 0 0] 75)) w.heap.size seq none 0 0 [] :=
    ⟨rfl, hB, hA, World.ownsRow_nil _ _ _ _, by simp, (((Fresh.refl w).alloc _).alloc _).alloc _⟩
  have HOS0 := Lib.hid hOS
  clear hA hB hOS
  go_enter Tryz.func28, Tryz.ntmps28
  go_wp2
  generalize ((w.alloc (.cells #[.int .u64 seq, .slice a l.length c] 66)).alloc (.cells #[.int .u64 0, .slice none 0 0] 75)).alloc (.cells #[.int .u64 seq, .slice none 0 0] 75) = W0 at *
  obtain ⟨b, hb⟩ : ∃ b, b = w.heap.size := ⟨_, rfl⟩
  have HBW := Lib.hid hb
  rw [← hb] at HOS0 ⊢
  clear hb
  go_loopw [15] (fun a15 wr => ∃ (k : Nat) (o : Option Addr) (c : Nat) (D : List M2), a15 = .int .i64 (k : Int) ∧ k ≤ l.length ∧ Hid (D.length = k) ∧ Hid (pods2 D = (pods2 l).take k) ∧ Hid (OS w wr b seq o k c D)) (fun a15 _ => l.length - (intOf a15).toNat)
  case atStart => exact ⟨0, none, 0, [], rfl, Nat.zero_le _, rfl, rfl, HOS0.out⟩
  case round =>
  clear HOS0
  obtain ⟨k, o, c2, D, rfl, hk, HD, HPD, HOS⟩ := hrel
  by_cases hlt : k < l.length
  case pos =>
    have hR := HROW.out.move HOS.out.fr
    obtain ⟨g, o1, rfl, hc⟩ := m2_form hR.row hlt
    obtain ⟨c0, c1, c2', c3, c4, c5⟩ := hc k hlt
    have HIN := Lib.hid (HROW.out.ins _ (List.getElem_mem hlt)).1
    have HNL := Lib.hid (HCL.out _ (List.getElem_mem hlt))
    have HTK : Hid ((pods2 l).take (k + 1) = (pods2 l).take k ++ [l[k].p]) := by
      rw [Hid, List.take_succ_eq_append_getElem (by simpa [pods2] using hlt)]; simp [pods2]
    have hsz3 : b + 2 < wr.heap.size := lt_of_at HOS.out.st
    clear hc hR
    generalize l[k] = m at *
    obtain ⟨⟨file, name, ns, r, gr, cs⟩, ca, cc⟩ := m
    have y4 : cs.length ≤ 4000000 := HNL.out
    have HIN : Hid (RowAt w ca (c2s cs)) := HIN.out
    dsimp only at *
    clear HNL
    have hOP := (HOS.out.fresh ((Fresh.refl wr).alloc (.cells #[.string file, .string name, .string ns, .int .u8 r, .int .u16 gr, .slice ca cs.length cc] 158))).pod #[.string file, .string name, .string ns, .int .u8 r, .int .u16 gr, .slice none 0 0]
    rw [World.size_alloc] at hOP
    have HOP0 := Lib.hid hOP
    clear hOP
    go_wp2
    all_goals try (exfalso; omega)
    clear c0 c1 c2' c3 c4 c5
    generalize (wr.alloc (.cells #[.string file, .string name, .string ns, .int .u8 r, .int .u16 gr, .slice ca cs.length cc] 158)).alloc (.cells #[.string file, .string name, .string ns, .int .u8 r, .int .u16 gr, .slice none 0 0] 164) = V0 at *
    obtain ⟨y, hy⟩ : ∃ y, y = wr.heap.size + 1 := ⟨_, rfl⟩
    rw [← hy] at HOP0 ⊢
    clear hy
    go_loopw [33] (fun a33 wv => ∃ (j : Nat) (a2 : Option Addr) (cc2 : Nat), a33 = .int .i64 (j : Int) ∧ j ≤ cs.length ∧ Hid (OP w wv b seq o k c2 D y #[.string file, .string name, .string ns, .int .u8 r, .int .u16 gr, .slice a2 j cc2] a2 j cc2 (cs.take j))) (fun a33 _ => cs.length - (intOf a33).toNat)
    case atStart => exact ⟨0, none, 0, rfl, Nat.zero_le _, HOP0.out⟩
    case round =>
    clear HOP0 HOS
    obtain ⟨j, a2, cc2, rfl, hj, HOP⟩ := hrel
    obtain ⟨⟨p0, p1, p2, p3, p4, p5⟩, g0, g1, g2, g3, g4, g5⟩ := HOP.out.pc6
    by_cases hjlt : j < cs.length
    case pos =>
      obtain ⟨gc, oc, rfl, hcc⟩ := c2_form (HIN.out.move HOP.out.fr) hjlt
      obtain ⟨l0, l1⟩ := hcc j hjlt
      have HTC : Hid (c2s (cs.take (j + 1)) = c2s (cs.take j) ++ [.string cs[j].name, .string cs[j].image]) := by rw [Hid, List.take_succ_eq_append_getElem hjlt, c2s_snoc]
      have hys : y < wr.heap.size := lt_of_at HOP.out.p
      clear hcc
      generalize cs[j] = x at *
      obtain ⟨x1, x2⟩ := x
      dsimp only at *
      have HN : Hid (∀ j u, [Value.string x1, .string x2][j]? = some u → ((wr.alloc (.cells #[.string x1, .string x2] 160)).alloc (.cells #[.string x1, .string x2] 165)).cell? ((⟨wr.heap.size + 1, 0, none⟩ : Addr).add j) = some u) := by
        have := news7 (wr.alloc (.cells #[.string x1, .string x2] 160)) 165 [.string x1, .string x2]
        rw [World.size_alloc] at this
        exact this
      have HOQ := Lib.hid (HOP.out.fresh (((Fresh.refl wr).alloc (.cells #[.string x1, .string x2] 160)).alloc (.cells #[.string x1, .string x2] 165)))
      go_wp2_with (at_builtin; refine Hid.out ?_)
      all_goals try (exfalso; omega)
      refine Lib.hid ?_
      refine wpList_append_own _ rfl _ _ 162 rfl (y + 1) 165 i1 (.agg #[.string ⟨#[]⟩, .string ⟨#[]⟩]) 2 32 Tryz.underlying162 hic hic0 hic1 hic2 rfl (by decide) _ j _ rfl HOQ.out.crow ⟨wr.heap.size + 1, 0, none⟩ 1 1 [.string x1, .string x2] rfl rfl HN.out (by simp [Value.oneCell']) (by unfold maxLen; omega) (by omega) (by rw [World.size_alloc, World.size_alloc]; omega) ?_
      intro v' w3 hown' hgrow _
      obtain ⟨g', cap', rfl⟩ := ownsRow_succ hown'
      have HOR := Lib.hid (HOQ.out.grownC (cs' := cs.take (j + 1)) hgrow (by rw [HTC.out]; exact hown'))
      clear hown' hgrow p0 p1 p2 p3 p4 p5 g0 g1 g2 g3 g4 g5 l0 l1
      obtain ⟨⟨p0, p1, p2, p3, p4, p5⟩, g0, g1, g2, g3, g4, g5⟩ := HOR.out.pc6
      go_wp2
      have HOT : Hid (OP w (w3.setCell ⟨y, 5, none⟩ (.slice (some ⟨g', 0, none⟩) (j + 1) cap')) b seq o k c2 D y #[.string file, .string name, .string ns, .int .u8 r, .int .u16 gr, .slice (some ⟨g', 0, none⟩) (j + 1) cap'] (some ⟨g', 0, none⟩) (j + 1) cap' (cs.take (j + 1))) := HOR.out.setP 5 _
      go_roundw
      case rel => exact ⟨j + 1, some ⟨g', 0, none⟩, cap', by simp, by omega, HOT.out⟩
      case measure => simp [intOf]; omega
    case neg =>
      obtain rfl : j = cs.length := by omega
      have HOP : Hid (OP w wr b seq o k c2 D y #[.string file, .string name, .string ns, .int .u8 r, .int .u16 gr, .slice a2 cs.length cc2] a2 cs.length cc2 cs) := by
        have := HOP.out
        rw [List.take_length] at this; exact this
      have q1 := cell_of_at HOP.out.st (i := 1) rfl
      have hy2 : b + 2 < y := HOP.out.hy
      have hbs : b + 2 < wr.heap.size := lt_of_at HOP.out.st
      have hys : y < wr.heap.size := lt_of_at HOP.out.p
      have HN := Lib.hid (news7 wr 164 [.string file, .string name, .string ns, .int .u8 r, .int .u16 gr, .slice a2 cs.length cc2])
      go_wp2_with (at_builtin; refine Hid.out ?_)
      all_goals try (exfalso; omega)
      refine Lib.hid ?_
      refine wpList_append_lies _ rfl _ _ 73 rfl (b + 3) 164 i0 (.agg #[.string ⟨#[]⟩, .string ⟨#[]⟩, .string ⟨#[]⟩, .int .u8 0, .int .u16 0, .slice none 0 0]) 6 80 Tryz.underlying73 hi hz0 hz1 hz2 rfl (by decide) _ k _ rfl (World.ownsRow.alloc HOP.out.row _) ⟨wr.heap.size, 0, none⟩ 1 1 [.string file, .string name, .string ns, .int .u8 r, .int .u16 gr, .slice a2 cs.length cc2] rfl rfl HN.out (by simp [Value.oneCell']) (by decide) (by unfold maxLen; omega) (by omega) (by rw [World.size_alloc]; omega) _ rfl ?_
      intro g' cap' w8 hown' hgrow hat _
      have HND : Hid (OS w (w8.setCell ⟨b + 2, 1, none⟩ (.slice (some ⟨g', 0, none⟩) (k + 1) cap')) b seq (some ⟨g', 0, none⟩) (k + 1) cap' (D ++ [(⟨⟨file, name, ns, r, gr, cs⟩, a2, cc2⟩ : M2)])) :=
        (HOP.out.fresh ((Fresh.refl wr).alloc _)).grownP (m := ⟨⟨file, name, ns, r, gr, cs⟩, a2, cc2⟩) rfl rfl rfl hgrow (by rw [m2s_snoc]; exact hown')
      have hyk : w8.cell? ⟨b + 2, 1, none⟩ = some (.slice o k c2) ∧ w8.frozen? ⟨b + 2, 1, none⟩ = false := by
        have hlt : ∀ g, (Value.slice o k c2).ownBlock = some g → b + 3 ≤ g := fun g e => (World.ownsRow.lt HOP.out.row g e).1
        have h1 := (hgrow.block (b + 2) (by rw [World.size_alloc]; omega) (fun e => by have := hlt (b + 2) e.symm; omega)).trans (at_alloc HOP.out.st)
        exact ⟨cell_of_at h1 (i := 1) rfl, frozen_of_at h1 1⟩
      obtain ⟨k1, kf⟩ := hyk
      clear hown' hgrow hat q1 p0 p1 p2 p3 p4 p5 g0 g1 g2 g3 g4 g5
      go_wp2
      go_roundw
      case rel =>
        refine ⟨k + 1, some ⟨g', 0, none⟩, cap', D ++ [(⟨⟨file, name, ns, r, gr, cs⟩, a2, cc2⟩ : M2)], by simp, by omega, ?_, ?_, HND.out⟩
        · rw [Hid, List.length_append, HD.out]; rfl
        · rw [Hid, pods2_snoc, HPD.out, HTK.out]
      case measure => simp [intOf]; omega
  case neg =>
    obtain rfl : k = l.length := by omega
    obtain ⟨p0, p1, _⟩ := st2_box HOS.out.st
    obtain ⟨q0, q1, hfz⟩ := st2_box HOS.out.r
    have f0 := hfz 0
    have f1 := hfz 1
    clear hfz
    go_wp2
    all_goals try (exfalso; omega)
    have hpl : (pods2 l).length = l.length := by simp [pods2]
    have hN : w.heap.size ≤ b + 3 := by have := HBW.out; omega
    refine bodyPost_ret (v := st2 seq o l.length c2) (by simp [results, Tryz.results28, go_sem, st2, *]) rfl ⟨o, c2, D, by rw [HD.out], ?_, ?_, fun m hm => ?_, ?_⟩
    · rw [HPD.out, ← hpl, List.take_length]
    · have hown := HOS.out.row
      rw [HD.out]
      refine World.ownsRow.mono (base := b + 3) ?_ hN
      exact own_set (p := ⟨b + 1, 1, none⟩) (own_set (p := ⟨b + 1, 0, none⟩) hown (by show b + 1 < b + 3; omega) _) (by show b + 1 < b + 3; omega) _
    · refine World.ownsRow.mono (base := b + 3) ?_ hN
      exact own_set (p := ⟨b + 1, 1, none⟩) (own_set (p := ⟨b + 1, 0, none⟩) (HOS.out.each m hm) (by show b + 1 < b + 3; omega) _) (by show b + 1 < b + 3; omega) _
    · exact (HOS.out.fr.setCell (p := ⟨b + 1, 0, none⟩) (by have := HBW.out; show _ ≤ b + 1; omega) _).setCell (p := ⟨b + 1, 1, none⟩) (by have := HBW.out; show _ ≤ b + 1; omega) _
end Go.Proofs.YtldncgelghcjeaaGreatDoor.K
namespace Go.Proofs.YtldncgelghcjeaaGreatDoor.K
open Go.ChangeShapes Go.WideShapes Go.ChangeAt Go.RowKit

def mainB : ByteArray := ⟨#[109, 97, 105, 110]⟩
def upC (c : C2) : Ct := ⟨c.name, c.image, [], [], 100, 64, []⟩
def up1 (p : P1) : P2 := ⟨p.file, p.name, nsDef, p.r, 30, [⟨mainB, p.image⟩]⟩
def up2 (p : P2) : P3 := ⟨p.file, ⟨p.name, p.ns, p.r, p.g, false, p.cs.map upC⟩⟩
def dnC (c : Ct) : C2 := ⟨c.name, c.image⟩
def dn (p : P3) : P2 := ⟨p.file, p.pd.name, p.pd.ns, p.pd.restart % 256, p.pd.grace % 65536, p.pd.cs.map dnC⟩
def mayC (c : Ct) : Bool := decide (c.cmd.length = 0) && (decide (c.ports.length = 0) && (decide (c.env.length = 0) && (decide (c.cpu = 100) && decide (c.mem = 64))))
def mayH (p : Pd) : Bool := decide (0 ≤ p.restart) && (decide (p.restart ≤ 255) && (decide (0 ≤ p.grace) && (decide (p.grace ≤ 65535) && !p.host)))
def may (p : P3) : Bool := mayH p.pd && p.pd.cs.all mayC

/-! ### there and back -/
theorem upC_dnC (c : Ct) : upC (dnC c) = c ↔ mayC c = true := by
  obtain ⟨n, i, cm, po, cpu, mem, ev⟩ := c
  simp only [upC, dnC, mayC, Ct.mk.injEq, Bool.and_eq_true, decide_eq_true_eq, List.length_eq_zero_iff, true_and]
  constructor
  · rintro ⟨h1, h2, h3, h4, h5⟩; exact ⟨h1.symm, h2.symm, h5.symm, h3.symm, h4.symm⟩
  · rintro ⟨h1, h2, h3, h4, h5⟩; exact ⟨h1.symm, h2.symm, h4.symm, h5.symm, h3.symm⟩
theorem map_same {α : Type} (f : α → α) (q : α → Bool) (h : ∀ x, f x = x ↔ q x = true) : ∀ l : List α, l.map f = l ↔ l.all q = true
  | [] => by simp
  | x :: l => by rw [List.map_cons, List.cons.injEq, List.all_cons, Bool.and_eq_true, h x, map_same f q h l]
theorem up2_dn (p : P3) : up2 (dn p) = p ↔ may p = true := by
  obtain ⟨f, n, s, r, g, h, cs⟩ := p
  have e := map_same (fun c => upC (dnC c)) mayC upC_dnC cs
  simp only [up2, dn, may, mayH, P3.mk.injEq, Pd.mk.injEq, List.map_map, Function.comp_def, Bool.and_eq_true, decide_eq_true_eq, true_and, e, Bool.not_eq_true']
  constructor
  · rintro ⟨h1, h2, h3, h4⟩
    refine ⟨⟨by omega, by omega, by omega, by omega, h3.symm⟩, h4⟩
  · rintro ⟨⟨h1, h2, h3, h4, h5⟩, h6⟩
    exact ⟨by omega, by omega, h5.symm, h6⟩
theorem P3.eqB_iff (p q : P3) : P3.eqB p q = true ↔ p = q := by
  obtain ⟨f, a⟩ := p
  obtain ⟨g, b⟩ := q
  simp only [P3.eqB, Bool.and_eq_true, decide_eq_true_eq, sameP_eq, P3.mk.injEq]
theorem eq3_iff : ∀ a b : List P3, eq3 a b = true ↔ a = b
  | [], [] => by simp [eq3]
  | [], _ :: _ => by simp [eq3]
  | _ :: _, [] => by simp [eq3]
  | p :: a, q :: b => by rw [eq3, Bool.and_eq_true, P3.eqB_iff, eq3_iff a b, List.cons.injEq]
theorem eqL_iff : ∀ a b : List P1, eqL a b = true ↔ a = b
  | [], [] => by simp [eqL]
  | [], _ :: _ => by simp [eqL]
  | _ :: _, [] => by simp [eqL]
  | p :: a, q :: b => by rw [eqL, Bool.and_eq_true, P1.eqB_iff, eqL_iff a b, List.cons.injEq]
/-- Whether what was is made into the same again. -/
theorem down_same (s : Int) (L : List P3) : same3 s s ((L.map dn).map up2) L = L.all may := by
  have e : eq3 ((L.map dn).map up2) L = L.all may := by
    rw [Bool.eq_iff_iff, eq3_iff, List.map_map]
    exact map_same (fun p => up2 (dn p)) may up2_dn L
  unfold same3
  rw [decide_eq_true rfl, e]; rfl
theorem dn_up2 {p : P2} (h : p.Num) : dn (up2 p) = p := by
  obtain ⟨f, n, s, r, g, cs⟩ := p
  obtain ⟨h1, h2, h3, h4⟩ := h
  dsimp only at h1 h2 h3 h4
  have e : (cs.map upC).map dnC = cs := by
    rw [List.map_map]
    exact (List.map_congr_left (fun c _ => rfl : ∀ c ∈ cs, (dnC ∘ upC) c = id c)).trans (List.map_id cs)
  simp only [dn, up2, e, P2.mk.injEq, true_and, and_true]
  omega
theorem may_up2 {p : P2} (h : p.Num) : may (up2 p) = true := by
  rw [← up2_dn, dn_up2 h]
theorem all_may {L : List P2} (h : ∀ p ∈ L, p.Num) : (L.map up2).all may = true := by
  rw [List.all_eq_true]
  intro p hp
  obtain ⟨q, hq, rfl⟩ := List.mem_map.1 hp
  exact may_up2 (h q hq)
theorem map_dn_up2 {L : List P2} (h : ∀ p ∈ L, p.Num) : (L.map up2).map dn = L := by
  rw [List.map_map]
  exact (List.map_congr_left (fun p hp => dn_up2 (h p hp) : ∀ p ∈ L, (dn ∘ up2) p = id p)).trans (List.map_id L)
/-- Nothing is mixed up. -/
theorem up_inj {p q : P1} (h : up2 (up1 p) = up2 (up1 q)) : p = q := by
  obtain ⟨f, n, i, r⟩ := p
  obtain ⟨f', n', i', r'⟩ := q
  simp only [up2, up1, List.map_cons, List.map_nil, upC, P3.mk.injEq, Pd.mk.injEq, List.cons.injEq, Ct.mk.injEq, true_and, and_true] at h
  obtain ⟨h1, h2, h3, h4⟩ := h
  subst h1 h2 h3 h4
  rfl
theorem same_up (s t : Int) (L M : List P1) : same3 s t ((L.map up1).map up2) ((M.map up1).map up2) = (decide (s = t) && eqL L M) := by
  have e : eq3 ((L.map up1).map up2) ((M.map up1).map up2) = eqL L M := by
    rw [Bool.eq_iff_iff, eq3_iff, eqL_iff, List.map_map, List.map_map]
    constructor
    · intro h
      exact (List.map_inj_right (fun a b hab => up_inj hab)).1 h
    · intro h; rw [h]
  unfold same3
  rw [e]

/-! ### what may be stays what may be -/
theorem up1_ok {p : P1} {a : ByteArray} (h : fE p a = 0) : f2E (up1 p) a = 0 := by
  unfold fE at h
  split at h
  · rename_i h1
    split at h
    · rename_i h2
      split at h
      · simp at h
      rename_i h3
      have k1 : labB nsDef.data.toList = true := by decide +kernel
      have k2 : labB mainB.data.toList = true := by decide +kernel
      have hh : head2E (up1 p) a = 0 := by
        unfold head2E
        rw [if_pos ⟨h1.1, h1.2, k1⟩, if_neg (by show ¬ leS p.file a = true; rw [h2.2]; decide), if_neg (by show ¬ (2 < p.r ∨ (30 : Int) < 1 ∨ 3600 < (30 : Int)); omega), if_neg (by show ¬ (1 = 0); decide), if_neg (by show ¬ 16 < 1; decide)]
      unfold f2E
      rw [if_pos hh]
      have hc : c2E [] ⟨mainB, p.image⟩ = 0 := by
        unfold c2E
        rw [if_pos k2, if_neg (by simp [memN]), if_pos h2.1]
      show cs2E [] [⟨mainB, p.image⟩] = 0
      rw [cs2E, if_pos hc, cs2E]
    · simp at h
  · simp at h
theorem chkF_up : ∀ (L : List P1) (a : ByteArray), chkF a L = 0 → chk2F a (L.map up1) = 0
  | [], _, _ => rfl
  | p :: L, a, h => by
    rw [chkF] at h
    split at h
    · rename_i h0
      rw [List.map_cons, chk2F, if_pos (up1_ok h0)]
      exact chkF_up L _ h
    · rename_i h0; exact absurd h h0
theorem chk1_up {L : List P1} (h : chk1 L = 0) : chk2 (L.map up1) = 0 := by
  unfold chk1 at h
  split at h
  · simp at h
  · rename_i h0
    unfold chk2
    rw [List.length_map, if_neg h0]
    exact chkF_up L _ h
theorem memT_up (s : ByteArray) : ∀ l : List C2, memT s (l.map (·.name)) = memN s l
  | [] => rfl
  | c :: l => by
    have := memT_up s l
    unfold memT memN at this ⊢
    rw [List.map_cons, List.any_cons, List.any_cons, this]
theorem upC_ok {ah : List C2} {c : C2} (h : c2E ah c = 0) : ctE (ah.map (·.name)) (upC c) = 0 := by
  unfold c2E at h
  split at h
  · rename_i h1
    split at h
    · simp at h
    rename_i h2
    split at h
    · rename_i h3
      unfold ctE
      rw [if_pos (show labB (upC c).name.data.toList = true from h1), if_neg (show ¬ memT (upC c).name (ah.map (·.name)) = true from by rw [memT_up]; exact h2)]
      unfold restE
      rw [if_pos (show imgB (upC c).image.data.toList = true from h3), if_neg (by simp [manyE, upC]), if_neg (by simp [rangeE, upC]), if_pos (by rfl), if_pos (by rfl)]
      rfl
    · simp at h
  · simp at h
theorem cs2E_up : ∀ (l ah : List C2), cs2E ah l = 0 → csE (ah.map (·.name)) (l.map upC) = 0
  | [], _, _ => rfl
  | c :: l, ah, h => by
    rw [cs2E] at h
    split at h
    · rename_i h0
      rw [List.map_cons, csE, if_pos (upC_ok h0)]
      have := cs2E_up l _ h
      rw [List.map_append] at this
      exact this
    · rename_i h0; exact absurd h h0
theorem up2_ok {p : P2} {a : ByteArray} (hn : 0 ≤ p.r) (h : f2E p a = 0) : f3E (up2 p) a = 0 := by
  unfold f2E at h
  split at h
  · rename_i h0
    unfold head2E at h0
    split at h0
    · rename_i h1
      split at h0
      · simp at h0
      rename_i h2
      split at h0
      · simp at h0
      rename_i h3
      split at h0
      · simp at h0
      rename_i h4
      split at h0
      · simp at h0
      rename_i h5
      unfold f3E
      rw [if_pos (show fileB (up2 p).file = true from h1.1), if_neg (show ¬ leS (up2 p).file a = true from h2)]
      have hh : headE (up2 p).pd = 0 := by
        unfold headE
        rw [if_pos (show nameB (up2 p).pd.name.data.toList = true ∧ labB (up2 p).pd.ns.data.toList = true from h1.2), if_neg (show ¬ ((up2 p).pd.restart < 0 ∨ 2 < (up2 p).pd.restart ∨ (up2 p).pd.grace < 1 ∨ 3600 < (up2 p).pd.grace) from by show ¬ (p.r < 0 ∨ 2 < p.r ∨ p.g < 1 ∨ 3600 < p.g); omega), if_neg (show ¬ (up2 p).pd.cs.length = 0 from by show ¬ (p.cs.map upC).length = 0; rw [List.length_map]; exact h4), if_neg (show ¬ 16 < (up2 p).pd.cs.length from by show ¬ 16 < (p.cs.map upC).length; rw [List.length_map]; exact h5)]
      unfold podE
      rw [if_pos hh]
      exact cs2E_up p.cs [] h
    · simp at h0
  · rename_i h0; exact absurd h h0
theorem chk2F_up : ∀ (L : List P2) (a : ByteArray), (∀ p ∈ L, 0 ≤ p.r) → chk2F a L = 0 → chk3F a (L.map up2) = 0
  | [], _, _, _ => rfl
  | p :: L, a, hn, h => by
    rw [chk2F] at h
    split at h
    · rename_i h0
      rw [List.map_cons, chk3F, if_pos (up2_ok (hn p List.mem_cons_self) h0)]
      exact chk2F_up L _ (fun q hq => hn q (List.mem_cons_of_mem _ hq)) h
    · rename_i h0; exact absurd h h0
theorem chk2_up {L : List P2} (hn : ∀ p ∈ L, 0 ≤ p.r) (h : chk2 L = 0) : chk3 (L.map up2) = 0 := by
  unfold chk2 at h
  split at h
  · simp at h
  · rename_i h0
    unfold chk3
    rw [List.length_map, if_neg h0]
    exact chk2F_up L _ hn h

/-! ### how great -/
theorem lit_wf1 {v : Int} (h0 : 0 ≤ v) (h1 : v < 4294967296) : (Lit.int .i64 v).wf = true := by
  have e1 : IntKind.i64.min = -9223372036854775808 := rfl
  have e2 : IntKind.i64.max = 9223372036854775807 := rfl
  simp only [Lit.wf, e1, e2, Bool.and_eq_true, decide_eq_true_eq]
  omega
theorem upC_low {c : C2} (h : c.name.size ≤ 1048576 ∧ c.image.size ≤ 1048576) : (upC c).Low :=
  ⟨h.1, h.2, Nat.zero_le _, Nat.zero_le _, Nat.zero_le _, fun s hs => absurd hs List.not_mem_nil, fun v hv => absurd hv List.not_mem_nil, (by decide : (Lit.int .i64 100).wf = true), (by decide : (Lit.int .i64 64).wf = true), fun p hp => absurd hp List.not_mem_nil⟩
/-- A pod of version 2 that isn't great. -/
def P2.Sm (p : P2) : Prop := p.Fit 1048576 ∧ p.cs.length ≤ 1048576
theorem up1_fit {p : P1} (h : p.Fit 1048576) : (up1 p).Sm :=
  ⟨⟨h.file, h.name, by show nsDef.size ≤ 1048576; decide, h.r0, h.r1, by show (0 : Int) ≤ 30; decide, by show (30 : Int) ≤ 65535; decide, fun c hc => by
    have : c = ⟨mainB, p.image⟩ := by simpa [up1] using hc
    subst this
    exact ⟨by show mainB.size ≤ 1048576; decide, h.image⟩⟩, by show 1 ≤ 1048576; decide⟩
theorem P2.Sm.num {p : P2} (h : p.Sm) : p.Num := ⟨h.1.r0, h.1.r1, h.1.g0, h.1.g1⟩
theorem mapS1 {L : List P1} (h : ∀ p ∈ L, p.Fit 1048576) : ∀ p ∈ L.map up1, p.Sm := fun p hp => by
  obtain ⟨q, hq, rfl⟩ := List.mem_map.1 hp
  exact up1_fit (h q hq)
end Go.Proofs.YtldncgelghcjeaaGreatDoor.K

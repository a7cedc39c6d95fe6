/-
  A pod that came in, opened: where its rows lie; how great it is.
  States of version 3 that came in, opened: where their rows lie; how great they are.
  States of version 3, with where their rows lie; what a store into a state's box leaves as it is.
-/
import Derived.Test.YtldncgelghcjeaaGreatDoorCat02
import Derived.Deep.Slices
import Derived.SizedLaws
import Derived.ChangeSame
import Derived.Test.YtldncgelghcjeaaGreatDoorCat26
import Derived.Test.YtldncgelghcjeaaGreatDoorCat01
set_option linter.unusedSimpArgs false
set_option linter.unusedVariables false
namespace Go.Proofs.YtldncgelghcjeaaGreatDoor
open Go.ChangeShapes Go.WideShapes Go.ChangeAt Go.RowKit Go.Deep

theorem bulk_one {H : Type} (d : DataW H) : 1 ≤ Rows.uptoBulk d := by
  cases d with
  | lit l => cases l <;> simp [Rows.uptoBulk]
  | nil => simp [Rows.uptoBulk]
  | ptr d => simp [Rows.uptoBulk]
  | slice elems spare => simp [Rows.uptoBulk]
  | agg parts => simp [Rows.uptoBulk]
  | iface t d => simp [Rows.uptoBulk]
  | map entries => simp [Rows.uptoBulk]
  | held h => simp [Rows.uptoBulk]
theorem bulk_part {H : Type} {d : DataW H} {l : List (DataW H)} (h : d ∈ l) : Rows.uptoBulk d ≤ Rows.uptoBulkAll l := by
  induction l with
  | nil => cases h
  | cons x r ih =>
    simp only [Rows.uptoBulkAll]
    cases List.mem_cons.1 h with
    | inl e => subst e; omega
    | inr e => have := ih e; omega
theorem bulk_len {H : Type} (l : List (DataW H)) : l.length ≤ Rows.uptoBulkAll l := by
  induction l with
  | nil => simp
  | cons x r ih => have := bulk_one x; simp only [Rows.uptoBulkAll, List.length_cons]; omega
theorem cells_int : Tryz.prog.cellsOf 3 = 1 := by kernel_rfl
theorem cells_int64 : Tryz.prog.cellsOf 2 = 1 := by kernel_rfl
theorem cells_bool : Tryz.prog.cellsOf 4 = 1 := by kernel_rfl
theorem cells_str : Tryz.prog.cellsOf 9 = 1 := by kernel_rfl
theorem cells_res : Tryz.prog.cellsOf 38 = 1 := by kernel_rfl
theorem cells_pro : Tryz.prog.cellsOf 127 = 1 := by kernel_rfl
theorem cells_port : Tryz.prog.cellsOf 129 = 2 := by kernel_rfl
theorem cells_env : Tryz.prog.cellsOf 130 = 2 := by kernel_rfl
theorem cells_cont : Tryz.prog.cellsOf 126 = 7 := by kernel_rfl
theorem cells_pod : Tryz.prog.cellsOf 41 = 6 := by kernel_rfl
theorem cells_sstr : Tryz.prog.cellsOf 111 = 1 := by kernel_rfl
theorem cells_sport : Tryz.prog.cellsOf 123 = 1 := by kernel_rfl
theorem cells_senv : Tryz.prog.cellsOf 124 = 1 := by kernel_rfl
theorem cells_scont : Tryz.prog.cellsOf 39 = 1 := by kernel_rfl
/-- A slice's row, its elements read by 'each'. -/
theorem open_rows {H : Type} {enc : TypeId × Value → H} {W : World} {fuel : Nat} {α : Type} [Inhabited α] {t e k : Nat} (cell : α → List Value) (P : α → DataW H → Prop) (hk : ∀ y, (cell y).length = k) (hkp : 0 < k) (ht : Tryz.prog.underlying t = some (.slice e)) (hc : Tryz.prog.cellsOf e = k)
    (each : ∀ n cs' d pl, DataW.trod enc Tryz.prog W 0 (fun _ => true) true n e cs' = some (d, pl) → ∃ y, cs' = cell y ∧ P y d) {cs : List Value} {x : DataW H × List MemPlace} (h : DataW.trod enc Tryz.prog W 0 (fun _ => true) true fuel t cs = some x) :
    ∃ (l : List α) (a : Option Addr) (cap : Nat), cs = [.slice a l.length cap] ∧ RowAt W a (l.flatMap cell) ∧ (∀ y ∈ l, ∃ d, P y d ∧ Rows.uptoBulk d ≤ Rows.uptoBulk x.1) ∧ l.length ≤ Rows.uptoBulk x.1 ∧ l.length ≤ cap := by
  rcases open_slice ht h with ⟨rfl, rfl⟩ | ⟨ad, len, cap, m, n, D, Pl, rfl, _, hlc, hcm, hm, rfl, hx⟩
  · exact ⟨[], none, 0, rfl, RowAt.nil _ _, (fun y h => absurd h List.not_mem_nil), Nat.zero_le _, Nat.zero_le _⟩
  · simp only [if_true] at hm
    rw [hm] at hx
    rw [hc] at hx
    have hlm := hlc
    have get : ∀ i, i < len → ∃ y : α, (∀ j v, (cell y)[j]? = some v → W.cell? ((ad.add (i * k)).add j) = some v) ∧ P y (D i) := fun i hi => by
      obtain ⟨cs', h1, h2⟩ := hx i (by omega)
      obtain ⟨_, hlen, hcell⟩ := World.cells?_some h1
      obtain ⟨y, rfl, hp⟩ := each _ _ _ _ h2
      refine ⟨y, fun j v hj => ?_, hp⟩
      have hj3 := (List.getElem?_eq_some_iff.1 hj).1
      rw [hcell j (by rw [← hk y]; exact hj3)]
      exact hj
    obtain ⟨q, hq⟩ := choose_lt get
    have hll : ((List.range len).map q).length = len := by simp
    refine ⟨(List.range len).map q, some ad, cap, by rw [hll], ?_, ?_, ?_, by rw [hll]; exact hlc⟩
    · by_cases h0 : len = 0
      · subst h0; exact .nil _ _
      · obtain ⟨b, off, spot⟩ := ad
        have hc0 : ∃ v, (cell (q 0))[0]? = some v := ⟨_, List.getElem?_eq_getElem (by rw [hk]; exact hkp)⟩
        obtain ⟨v0, hv0⟩ := hc0
        obtain rfl : spot = none := by
          have := World.cell?_spot ((hq 0 (by omega)).1 0 v0 hv0)
          simpa [Addr.add] using this
        refine .inr ⟨b, off, rfl, fun j v hj => ?_⟩
        have hjl : j < len * k := by
          have := (List.getElem?_eq_some_iff.1 hj).1
          rw [flat_length cell k hk, hll] at this
          exact this
        have hi : j / k < len := Nat.div_lt_of_lt_mul (by rw [Nat.mul_comm]; exact hjl)
        have hr : j % k < k := Nat.mod_lt _ hkp
        have hjd : j / k * k + j % k = j := by rw [Nat.mul_comm]; exact Nat.div_add_mod j k
        have hg := flat_get cell k hk ((List.range len).map q) (j / k) (by rw [hll]; exact hi) (j % k) hr
        rw [hjd, hj] at hg
        have he : ((List.range len).map q)[j / k]'(by rw [hll]; exact hi) = q (j / k) := by simp
        rw [he] at hg
        have := (hq (j / k) hi).1 (j % k) v hg.symm
        rw [addr_add, addr_add, Nat.add_assoc, hjd] at this
        exact this
    · intro y hy
      obtain ⟨i, hi, rfl⟩ := List.mem_map.1 hy
      have hi' := List.mem_range.1 hi
      refine ⟨D i, (hq i hi').2, ?_⟩
      have : D i ∈ (List.range len).map D := List.mem_map.2 ⟨i, hi, rfl⟩
      have h2 := bulk_part this
      simp only [Rows.uptoBulk]
      omega
    · rw [hll]
      have := bulk_len ((List.range len).map D)
      simp only [Rows.uptoBulk]
      rw [List.length_map, List.length_range] at this
      omega
theorem open_texts {H : Type} {enc : TypeId × Value → H} {W : World} {fuel : Nat} {cs : List Value} {x : DataW H × List MemPlace} (h : DataW.trod enc Tryz.prog W 0 (fun _ => true) true fuel 111 cs = some x) :
    ∃ (l : List ByteArray) (a : Option Addr) (cap : Nat), cs = [.slice a l.length cap] ∧ RowAt W a (tcells l) ∧ (∀ s ∈ l, s.size ≤ Rows.uptoBulk x.1) ∧ l.length ≤ Rows.uptoBulk x.1 := by
  obtain ⟨l, a, cap, h1, h2, h3, h4, _⟩ := open_rows (α := ByteArray) tcell (fun s d => d = .lit (.string s.data.toList)) (fun _ => rfl) (by decide) Tryz.underlying111 cells_str (fun n cs' d pl h => by
    obtain ⟨s, e1, e2, _⟩ := DataW.trod_string Tryz.underlying9 h
    simp only [Prod.mk.injEq] at e2
    exact ⟨s, e1, e2.1⟩) h
  refine ⟨l, a, cap, h1, h2, fun s hs => ?_, h4⟩
  obtain ⟨d, rfl, hd⟩ := h3 s hs
  simp [Rows.uptoBulk] at hd
  omega
instance : Inhabited (Int × Int) := ⟨(0, 0)⟩
set_option maxRecDepth 100000 in
theorem open_ports {H : Type} {enc : TypeId × Value → H} {W : World} {fuel : Nat} {cs : List Value} {x : DataW H × List MemPlace} (h : DataW.trod enc Tryz.prog W 0 (fun _ => true) true fuel 123 cs = some x) :
    ∃ (l : List (Int × Int)) (a : Option Addr) (cap : Nat), cs = [.slice a l.length cap] ∧ RowAt W a (pcells l) ∧ (∀ p ∈ l, (Lit.int .i64 p.1).wf = true ∧ (Lit.int .i64 p.2).wf = true) ∧ l.length ≤ Rows.uptoBulk x.1 ∧ l.length ≤ cap := by
  obtain ⟨l, a, cap, h1, h2, h3, h4, h5⟩ := open_rows (α := Int × Int) pcell (fun p _ => (Lit.int .i64 p.1).wf = true ∧ (Lit.int .i64 p.2).wf = true) (fun _ => rfl) (by decide) Tryz.underlying123 cells_port (fun n cs' d pl h => by
    obtain ⟨xs, k, hk, hxy, hlen, hxl, hf⟩ := DataW.trod_struct Tryz.underlying129 h
    rw [cells_port] at hlen
    match xs, hxl, cs', hlen with
    | [y0, y1], _, [v0, v1], _ =>
      have g0 := hf 0 _ rfl
      have g1 := hf 1 _ rfl
      simp [cells_int64, cells_pro] at g0 g1
      obtain ⟨k0, e0, f0, w0⟩ := DataW.trod_int Tryz.underlying2 g0
      obtain ⟨k1, e1, f1, w1⟩ := DataW.trod_int Tryz.underlying127 g1
      simp only [List.cons.injEq, and_true] at e0 e1
      subst e0 e1
      exact ⟨(k0, k1), rfl, w0, w1⟩) h
  exact ⟨l, a, cap, h1, h2, fun p hp => (h3 p hp).choose_spec.1, h4, h5⟩
set_option maxRecDepth 100000 in
theorem open_envs {H : Type} {enc : TypeId × Value → H} {W : World} {fuel : Nat} {cs : List Value} {x : DataW H × List MemPlace} (h : DataW.trod enc Tryz.prog W 0 (fun _ => true) true fuel 124 cs = some x) :
    ∃ (l : List (ByteArray × ByteArray)) (a : Option Addr) (cap : Nat), cs = [.slice a l.length cap] ∧ RowAt W a (ecells l) ∧ (∀ p ∈ l, p.1.size ≤ Rows.uptoBulk x.1 ∧ p.2.size ≤ Rows.uptoBulk x.1) ∧ l.length ≤ Rows.uptoBulk x.1 := by
  haveI : Inhabited (ByteArray × ByteArray) := ⟨(⟨#[]⟩, ⟨#[]⟩)⟩
  obtain ⟨l, a, cap, h1, h2, h3, h4, _⟩ := open_rows (α := ByteArray × ByteArray) ecell (fun p d => p.1.size ≤ Rows.uptoBulk d ∧ p.2.size ≤ Rows.uptoBulk d) (fun _ => rfl) (by decide) Tryz.underlying124 cells_env (fun n cs' d pl h => by
    obtain ⟨xs, k, hk, hxy, hlen, hxl, hf⟩ := DataW.trod_struct Tryz.underlying130 h
    rw [cells_env] at hlen
    match xs, hxl, cs', hlen with
    | [y0, y1], _, [v0, v1], _ =>
      have g0 := hf 0 _ rfl
      have g1 := hf 1 _ rfl
      simp [cells_str] at g0 g1
      obtain ⟨k0, e0, f0, _⟩ := DataW.trod_string Tryz.underlying9 g0
      obtain ⟨k1, e1, f1, _⟩ := DataW.trod_string Tryz.underlying9 g1
      simp only [List.cons.injEq, and_true] at e0 e1
      subst e0 e1
      simp only [Prod.mk.injEq] at hxy
      refine ⟨(k0, k1), rfl, ?_, ?_⟩
      · rw [hxy.1, f0, f1]
        simp [Rows.uptoBulk, Rows.uptoBulkAll]
        omega
      · rw [hxy.1, f0, f1]
        simp [Rows.uptoBulk, Rows.uptoBulkAll]
        omega) h
  exact ⟨l, a, cap, h1, h2, fun p hp => by obtain ⟨d, h5, h6⟩ := h3 p hp; exact ⟨by omega, by omega⟩, h4⟩
set_option maxRecDepth 100000 in
set_option maxHeartbeats 1000000 in
theorem open_cont {H : Type} {enc : TypeId × Value → H} {W : World} {fuel : Nat} {cs : List Value} {d : DataW H} {pl : List MemPlace} (h : DataW.trod enc Tryz.prog W 0 (fun _ => true) true fuel 126 cs = some (d, pl)) :
    ∃ m : CM, cs = m.cells ∧ m.In W ∧ (Rows.uptoBulk d ≤ 1048576 → m.c.Low) := by
  obtain ⟨xs, k, hk, hxy, hlen, hxl, hf⟩ := DataW.trod_struct Tryz.underlying126 h
  rw [cells_cont] at hlen
  match xs, hxl, cs, hlen with
  | [y0, y1, y2, y3, y4, y5, y6], _, [v0, v1, v2, v3, v4, v5, v6], _ =>
    have g0 := hf 0 _ rfl
    have g1 := hf 1 _ rfl
    have g2 := hf 2 _ rfl
    have g3 := hf 3 _ rfl
    have g4 := hf 4 _ rfl
    have g5 := hf 5 _ rfl
    have g6 := hf 6 _ rfl
    simp [cells_str, cells_int64, cells_sstr, cells_sport, cells_senv] at g0 g1 g2 g3 g4 g5 g6
    obtain ⟨k0, e0, f0, _⟩ := DataW.trod_string Tryz.underlying9 g0
    obtain ⟨k1, e1, f1, _⟩ := DataW.trod_string Tryz.underlying9 g1
    obtain ⟨k2, a2, c2, e2, r2, b2, n2⟩ := open_texts g2
    obtain ⟨k3, a3, c3, e3, r3, b3, n3, o3⟩ := open_ports g3
    obtain ⟨k4, e4, f4, w4⟩ := DataW.trod_int Tryz.underlying2 g4
    obtain ⟨k5, e5, f5, w5⟩ := DataW.trod_int Tryz.underlying2 g5
    obtain ⟨k6, a6, c6, e6, r6, b6, n6⟩ := open_envs g6
    simp only [List.cons.injEq, and_true] at e0 e1 e2 e3 e4 e5 e6
    subst e0 e1 e2 e3 e4 e5 e6
    simp only [Prod.mk.injEq] at hxy
    refine ⟨⟨⟨k0, k1, k2, k3, k4, k5, k6⟩, a2, c2, a3, c3, a6, c6⟩, rfl, ⟨r2, r3, r6, o3⟩, fun hb => ?_⟩
    have hall : Rows.uptoBulk y0.1 + (Rows.uptoBulk y1.1 + (Rows.uptoBulk y2.1 + (Rows.uptoBulk y3.1 + Rows.uptoBulk y6.1))) ≤ 1048576 := by
      rw [hxy.1] at hb
      simp only [List.map_cons, List.map_nil, Rows.uptoBulk, Rows.uptoBulkAll] at hb
      omega
    have s0 : k0.size ≤ Rows.uptoBulk y0.1 := by rw [f0]; simp [Rows.uptoBulk]
    have s1 : k1.size ≤ Rows.uptoBulk y1.1 := by rw [f1]; simp [Rows.uptoBulk]
    exact { name := by show k0.size ≤ _; omega, image := by show k1.size ≤ _; omega, lc := by show k2.length ≤ _; omega, lp := by show k3.length ≤ _; omega, le := by show k6.length ≤ _; omega,
            cmd := fun s hs => by have := b2 s hs; omega, env := fun v hv => by have := b6 v hv; omega, icpu := w4, imem := w5, ip := b3 }
set_option maxRecDepth 100000 in
set_option maxHeartbeats 1000000 in
theorem open_pod {H : Type} {enc : TypeId × Value → H} {W : World} {fuel : Nat} {cs : List Value} {d : DataW H} {pl : List MemPlace} (h : DataW.trod enc Tryz.prog W 0 (fun _ => true) true fuel 41 cs = some (d, pl)) :
    ∃ p : PM, cs = p.val.cells.toList ∧ p.At W ∧ (Rows.uptoBulk d ≤ 1048576 → p.Low) := by
  haveI : Inhabited CM := ⟨⟨⟨⟨#[]⟩, ⟨#[]⟩, [], [], 0, 0, []⟩, none, 0, none, 0, none, 0⟩⟩
  obtain ⟨xs, k, hk, hxy, hlen, hxl, hf⟩ := DataW.trod_struct Tryz.underlying41 h
  rw [cells_pod] at hlen
  match xs, hxl, cs, hlen with
  | [y0, y1, y2, y3, y4, y5], _, [v0, v1, v2, v3, v4, v5], _ =>
    have g0 := hf 0 _ rfl
    have g1 := hf 1 _ rfl
    have g2 := hf 2 _ rfl
    have g3 := hf 3 _ rfl
    have g4 := hf 4 _ rfl
    have g5 := hf 5 _ rfl
    simp [cells_str, cells_int64, cells_res, cells_bool, cells_scont] at g0 g1 g2 g3 g4 g5
    obtain ⟨k0, e0, f0, _⟩ := DataW.trod_string Tryz.underlying9 g0
    obtain ⟨k1, e1, f1, _⟩ := DataW.trod_string Tryz.underlying9 g1
    obtain ⟨k2, e2, f2, w2⟩ := DataW.trod_int Tryz.underlying38 g2
    obtain ⟨k3, e3, f3, w3⟩ := DataW.trod_int Tryz.underlying2 g3
    obtain ⟨k4, e4, f4⟩ := DataW.trod_bool Tryz.underlying4 g4
    obtain ⟨l, a, cap, e5, r5, b5, n5, l5⟩ := open_rows (α := CM) CM.cells (fun m d => m.In W ∧ (Rows.uptoBulk d ≤ 1048576 → m.c.Low)) (fun _ => rfl) (by decide) Tryz.underlying39 cells_cont (fun n cs' d pl h => open_cont h) g5
    simp only [List.cons.injEq, and_true] at e0 e1 e2 e3 e4 e5
    subst e0 e1 e2 e3 e4 e5
    simp only [Prod.mk.injEq] at hxy
    refine ⟨⟨k0, k1, k2, k3, k4, a, cap, l⟩, rfl, ⟨r5, fun m hm => by obtain ⟨d, h1, _⟩ := b5 m hm; exact h1.1, l5⟩, fun hb => ?_⟩
    have hall : Rows.uptoBulk y0.1 + (Rows.uptoBulk y1.1 + Rows.uptoBulk y5.1) ≤ 1048576 := by
      rw [hxy.1] at hb
      simp only [List.map_cons, List.map_nil, Rows.uptoBulk, Rows.uptoBulkAll] at hb
      omega
    have s0 : k0.size ≤ Rows.uptoBulk y0.1 := by rw [f0]; simp [Rows.uptoBulk]
    have s1 : k1.size ≤ Rows.uptoBulk y1.1 := by rw [f1]; simp [Rows.uptoBulk]
    exact { name := by show k0.size ≤ _; omega, ns := by show k1.size ≤ _; omega, ir := w2, ig := w3, len := by show l.length ≤ _; omega,
            cs := fun m hm => by obtain ⟨d, h1, h2⟩ := b5 m hm; exact h1.2 (by omega) }
end Go.Proofs.YtldncgelghcjeaaGreatDoor
namespace Go.Proofs.YtldncgelghcjeaaGreatDoor.K
open Go.ChangeShapes Go.WideShapes Go.ChangeAt Go.RowKit Go.Deep
set_option maxRecDepth 100000

theorem cells_u64 : Tryz.prog.cellsOf 22 = 1 := by kernel_rfl
theorem cells_pod3 : Tryz.prog.cellsOf 93 = 7 := by kernel_rfl
theorem cells_spod3 : Tryz.prog.cellsOf 23 = 1 := by kernel_rfl
theorem cells_state3 : Tryz.prog.cellsOf 25 = 2 := by kernel_rfl
theorem u64_of {v : Int} (h : (Lit.int .u64 v).wf = true) : 0 ≤ v ∧ v ≤ 18446744073709551615 := by
  simp [Lit.wf, IntKind.min, IntKind.max, IntKind.signed, IntKind.bits] at h; omega
instance : Inhabited M3 := ⟨⟨⟨#[]⟩, ⟨⟨#[]⟩, ⟨#[]⟩, 0, 0, false, none, 0, []⟩⟩⟩
theorem lo_low {x : M3} (hf : x.file.size ≤ 1048576) (h : x.m.Low) : x.p.Lo where
  file := hf
  name := h.name
  ns := h.ns
  ir := h.ir
  ig := h.ig
  len := by have := h.len; simpa [M3.p, PM.pd] using this
  cs := fun c hc => by
    obtain ⟨m, hm, rfl⟩ := List.mem_map.1 hc
    exact h.cs m hm
theorem open_pod3 {H : Type} {enc : TypeId × Value → H} {W : World} {fuel : Nat} {cs : List Value} {d : DataW H} {pl : List MemPlace} (h : DataW.trod enc Tryz.prog W 0 (fun _ => true) true fuel 93 cs = some (d, pl)) :
    ∃ x : M3, cs = x.cells ∧ x.m.At W ∧ (Rows.uptoBulk d ≤ 1048576 → x.p.Lo) := by
  obtain ⟨xs, k, hk, hxy, hlen, hxl, hf⟩ := DataW.trod_struct Tryz.underlying93 h
  rw [cells_pod3] at hlen
  match xs, hxl, cs, hlen with
  | [y0, y1], _, [v0, v1, v2, v3, v4, v5, v6], _ =>
    have g0 := hf 0 _ rfl
    have g1 := hf 1 _ rfl
    simp [cells_str, cells_pod] at g0 g1
    obtain ⟨k0, e0, f0, _⟩ := DataW.trod_string Tryz.underlying9 g0
    obtain ⟨p, e1, a1, l1⟩ := open_pod g1
    simp only [List.cons.injEq, and_true] at e0
    simp only [Prod.mk.injEq] at hxy
    obtain ⟨p1, p2, p3, p4, p5, p6, p7, p8⟩ := p
    subst e0
    refine ⟨⟨k0, ⟨p1, p2, p3, p4, p5, p6, p7, p8⟩⟩, ?_, a1, fun hb => lo_low ?_ (l1 ?_)⟩
    · have : [v1, v2, v3, v4, v5, v6] = [.string p1, .string p2, .int .i64 p3, .int .i64 p4, .bool p5, .slice p6 p8.length p7] := e1
      simp only [M3.cells]
      rw [this]
    · rw [hxy.1] at hb
      simp only [List.map_cons, List.map_nil, f0, Rows.uptoBulk, Rows.uptoBulkAll] at hb
      show k0.size ≤ _
      rw [Lib.size_eq]; omega
    · rw [hxy.1] at hb
      simp only [List.map_cons, List.map_nil, f0, Rows.uptoBulk, Rows.uptoBulkAll] at hb
      omega
theorem open_st3 {H : Type} {enc : TypeId × Value → H} {W : World} {fuel : Nat} {cs : List Value} {d : DataW H} {pl : List MemPlace} (h : DataW.trod enc Tryz.prog W 0 (fun _ => true) true fuel 25 cs = some (d, pl)) :
    ∃ (seq : Int) (L : List P3) (a : Option Addr) (c : Nat), cs = [.int .u64 seq, .slice a L.length c] ∧ AtL L W a ∧ 0 ≤ seq ∧ seq ≤ 18446744073709551615 ∧ (Rows.uptoBulk d ≤ 1048576 → L.length ≤ 1048576 ∧ ∀ p ∈ L, p.Lo) := by
  obtain ⟨xs, k, hk, hxy, hlen, hxl, hf⟩ := DataW.trod_struct Tryz.underlying25 h
  rw [cells_state3] at hlen
  match xs, hxl, cs, hlen with
  | [y0, y1], _, [v0, v1], _ =>
    have g0 := hf 0 _ rfl
    have g1 := hf 1 _ rfl
    simp [cells_u64, cells_spod3] at g0 g1
    obtain ⟨k0, e0, f0, w0⟩ := DataW.trod_int Tryz.underlying22 g0
    obtain ⟨l, a, cap, e1, r1, b1, n1, l1⟩ := open_rows (α := M3) M3.cells (fun m d => m.m.At W ∧ (Rows.uptoBulk d ≤ 1048576 → m.p.Lo)) (fun _ => rfl) (by decide) Tryz.underlying23 cells_pod3 (fun n cs' d pl h => open_pod3 h) g1
    simp only [List.cons.injEq, and_true] at e0 e1
    subst e0 e1
    simp only [Prod.mk.injEq] at hxy
    obtain ⟨b0, b00⟩ := u64_of w0
    refine ⟨k0, pods3 l, a, cap, by rw [pods3_length], ⟨l, rfl, r1, fun m hm => ?_⟩, b0, b00, fun hb => ?_⟩
    · obtain ⟨d', h1, _⟩ := b1 m hm
      exact h1.1
    · rw [hxy.1] at hb
      simp only [List.map_cons, List.map_nil, Rows.uptoBulk, Rows.uptoBulkAll] at hb
      refine ⟨by rw [pods3_length]; omega, fun p hp => ?_⟩
      obtain ⟨m, hm, rfl⟩ := List.mem_map.1 hp
      obtain ⟨d', h1, h2⟩ := b1 m hm
      exact h1.2 (by omega)
/-- A state among the arguments. -/
theorem arg_st3 {H : Type} {enc : TypeId × Value → H} {W : World} {base : Nat} {v : Value} {d : DataW H} {p : List MemPlace} (ho : Value.okWide Tryz.prog W .any base 25 v) (h : DataW.Trod enc Tryz.prog W 0 (fun _ => true) true 25 v d p) :
    ∃ (seq : Int) (L : List P3) (a : Option Addr) (c : Nat), v = st3 seq a L.length c ∧ AtL L W a ∧ 0 ≤ seq ∧ seq ≤ 18446744073709551615 ∧ (Rows.uptoBulk d ≤ 1048576 → L.length ≤ 1048576 ∧ ∀ p ∈ L, p.Lo) := by
  obtain ⟨cs, rfl, hs⟩ := okWide_struct Tryz.underlying25 ho
  obtain ⟨f, g⟩ := h
  obtain ⟨seq, L, a, c, h1, h2, h3⟩ := open_st3 g
  refine ⟨seq, L, a, c, ?_, h2, h3⟩
  have : cs = #[.int .u64 seq, .slice a L.length c] := Array.toList_inj.1 h1
  rw [this]; rfl
end Go.Proofs.YtldncgelghcjeaaGreatDoor.K
namespace Go.Proofs.YtldncgelghcjeaaGreatDoor.K
open Go.ChangeShapes Go.WideShapes Go.ChangeAt Go.RowKit

structure SM3 where
  seq : Int
  a : Option Addr
  l : List P3
  c : Nat
def SM3.val (p : SM3) : Value := .agg #[.int .u64 p.seq, .slice p.a p.l.length p.c]
abbrev SM3.obj (p : SM3) (ty : Nat) : Obj := .cells #[.int .u64 p.seq, .slice p.a p.l.length p.c] ty
def SM3.At (p : SM3) (w : World) : Prop := AtL p.l w p.a ∧ p.l.length ≤ 1048576 ∧ ∀ x ∈ p.l, x.Lo
def SM3.Own (p : SM3) (W : World) (_ : Nat) : Prop := AtL p.l W p.a
theorem own3_fresh {p : SM3} {W W' : World} {B : Nat} (h : p.Own W B) (f : Fresh W W') : p.Own W' B := AtL.move h f
def Odd (v : Value) : Prop := (∃ s, v = .string s) ∨ ∃ i, v = .int .i64 i
theorem row_box {W : World} {b : Option Addr} {cells : List Value} (h : RowAt W b cells) {z n c t : Nat} {s : Int} {a : Option Addr} {fz : Nat × Nat} (hz : W.heap[z]? = some (.cells #[.int .u64 s, .slice a n c] t fz)) (ho : ∀ v, cells[0]? = some v → Odd v) (i : Nat) (u : Value) : RowAt (W.setCell ⟨z, i, none⟩ u) b cells := by
  by_cases hc : cells = []
  · exact .inl hc
  rcases h with h | ⟨g, o, e, h⟩
  · exact .inl h
  obtain ⟨v, r, rfl⟩ : ∃ v r, cells = v :: r := by
    cases cells with
    | nil => exact absurd rfl hc
    | cons v r => exact ⟨v, r, rfl⟩
  have h0 := h 0 v rfl
  have hne : g ≠ z := fun e2 => by
    subst e2
    have hv := ho v rfl
    simp only [World.cell?, hz] at h0
    rcases o with _ | _ | o
    · simp at h0
      subst h0
      rcases hv with ⟨s, hs⟩ | ⟨i, hs⟩ <;> simp at hs
    · simp at h0
      subst h0
      rcases hv with ⟨s, hs⟩ | ⟨i, hs⟩ <;> simp at hs
    · simp at h0
  exact RowAt.set (.inr ⟨g, o, e, h⟩) (fun ad e2 => by
    rw [e] at e2
    cases e2
    exact hne) u
theorem odd_m3s : ∀ (D : List M3) v, (m3s D)[0]? = some v → Odd v
  | [], v, h => by simp [m3s] at h
  | x :: D, v, h => by simp [m3s, M3.cells] at h; exact .inl ⟨_, h.symm⟩
theorem odd_c : ∀ (D : List CM) v, (ccells D)[0]? = some v → Odd v
  | [], v, h => by simp [ccells] at h
  | x :: D, v, h => by simp [ccells, CM.cells] at h; exact .inl ⟨_, h.symm⟩
theorem odd_t : ∀ (D : List ByteArray) v, (tcells D)[0]? = some v → Odd v
  | [], v, h => by simp [tcells] at h
  | x :: D, v, h => by simp [tcells, tcell] at h; exact .inl ⟨_, h.symm⟩
theorem odd_p : ∀ (D : List (Int × Int)) v, (pcells D)[0]? = some v → Odd v
  | [], v, h => by simp [pcells] at h
  | x :: D, v, h => by simp [pcells, pcell] at h; exact .inr ⟨_, h.symm⟩
theorem odd_e : ∀ (D : List (ByteArray × ByteArray)) v, (ecells D)[0]? = some v → Odd v
  | [], v, h => by simp [ecells] at h
  | x :: D, v, h => by simp [ecells, ecell] at h; exact .inl ⟨_, h.symm⟩
theorem own3_set {p : SM3} {W : World} {B z n c t : Nat} {s : Int} {a : Option Addr} {fz : Nat × Nat} (h : p.Own W B) (hz : W.heap[z]? = some (.cells #[.int .u64 s, .slice a n c] t fz)) (i : Nat) (u : Value) : p.Own (W.setCell ⟨z, i, none⟩ u) B := by
  obtain ⟨D, h1, h2, h3⟩ := h
  refine ⟨D, h1, row_box h2 hz (odd_m3s D) i u, fun x hx => ?_⟩
  have k := h3 x hx
  refine ⟨row_box k.row hz (odd_c _) i u, fun m hm => ?_, k.le⟩
  have k2 := k.ins m hm
  exact ⟨row_box k2.cmd hz (odd_t _) i u, row_box k2.ports hz (odd_p _) i u, row_box k2.env hz (odd_e _) i u, k2.room⟩
theorem of3_own (p : SM3) (w0 W : World) (h : p.At w0) (f : Fresh w0 W) : Calls Tryz.prog 11 #[p.val] W fun e V => ∃ x : SM3, e = .returned x.val ∧ (x.seq = p.seq ∧ x.l = p.l) ∧ x.Own V W.heap.size ∧ Fresh W V := by
  obtain ⟨h1, h2, h3⟩ := h
  obtain ⟨seq, a, l, c⟩ := p
  refine Calls.mono (of3_at seq a l c W (h1.move f) h2 h3) ?_
  rintro e V ⟨a', c', rfl, e1, e2⟩
  exact ⟨⟨seq, a', l, c'⟩, rfl, ⟨rfl, rfl⟩, e1, e2⟩
end Go.Proofs.YtldncgelghcjeaaGreatDoor.K

/-
  A pod that came in, opened: where its rows lie; how great it is.
-/
import Derived.Test.YtfhhmajkacjbgaaDoorSBase
import Derived.Deep.Slices
import Derived.SizedLaws
import Derived.ChangeSame
namespace Go.Proofs.YtfhhmajkacjbgaaDoor
open Go.ChangeShapes Go.WideShapes Go.ChangeAt Go.RowKit Go.Deep

theorem bulk_one {H : Type} (d : DataW H) : 1 ≤ Rows.uptoBulk d := by
  cases d with
  | lit l => cases l <;> simp [Rows.uptoBulk]
  | nil => simp [Rows.uptoBulk]
  | ptr d => simp [Rows.uptoBulk]
  | slice elems spare => simp [Rows.uptoBulk]
  | agg parts => simp [Rows.uptoBulk]
  | iface t d => simp [Rows.uptoBulk]
  | map entries => simp [Rows.uptoBulk]
  | held h => simp [Rows.uptoBulk]
theorem bulk_part {H : Type} {d : DataW H} {l : List (DataW H)} (h : d ∈ l) : Rows.uptoBulk d ≤ Rows.uptoBulkAll l := by
  induction l with
  | nil => cases h
  | cons x r ih =>
    simp only [Rows.uptoBulkAll]
    cases List.mem_cons.1 h with
    | inl e => subst e; omega
    | inr e => have := ih e; omega
theorem bulk_len {H : Type} (l : List (DataW H)) : l.length ≤ Rows.uptoBulkAll l := by
  induction l with
  | nil => simp
  | cons x r ih => have := bulk_one x; simp only [Rows.uptoBulkAll, List.length_cons]; omega
theorem cells_int : Tryd.prog.cellsOf 3 = 1 := by kernel_rfl
theorem cells_int64 : Tryd.prog.cellsOf 2 = 1 := by kernel_rfl
theorem cells_bool : Tryd.prog.cellsOf 4 = 1 := by kernel_rfl
theorem cells_str : Tryd.prog.cellsOf 9 = 1 := by kernel_rfl
theorem cells_res : Tryd.prog.cellsOf 22 = 1 := by kernel_rfl
theorem cells_pro : Tryd.prog.cellsOf 41 = 1 := by kernel_rfl
theorem cells_port : Tryd.prog.cellsOf 55 = 2 := by kernel_rfl
theorem cells_env : Tryd.prog.cellsOf 64 = 2 := by kernel_rfl
theorem cells_cont : Tryd.prog.cellsOf 53 = 7 := by kernel_rfl
theorem cells_pod : Tryd.prog.cellsOf 25 = 6 := by kernel_rfl
theorem cells_sstr : Tryd.prog.cellsOf 45 = 1 := by kernel_rfl
theorem cells_sport : Tryd.prog.cellsOf 50 = 1 := by kernel_rfl
theorem cells_senv : Tryd.prog.cellsOf 51 = 1 := by kernel_rfl
theorem cells_scont : Tryd.prog.cellsOf 23 = 1 := by kernel_rfl
/-- A slice's row, its elements read by 'each'. -/
theorem open_rows {H : Type} {enc : TypeId × Value → H} {W : World} {fuel : Nat} {α : Type} [Inhabited α] {t e k : Nat} (cell : α → List Value) (P : α → DataW H → Prop) (hk : ∀ y, (cell y).length = k) (hkp : 0 < k) (ht : Tryd.prog.underlying t = some (.slice e)) (hc : Tryd.prog.cellsOf e = k)
    (each : ∀ n cs' d pl, DataW.trod enc Tryd.prog W 0 (fun _ => true) true n e cs' = some (d, pl) → ∃ y, cs' = cell y ∧ P y d) {cs : List Value} {x : DataW H × List MemPlace} (h : DataW.trod enc Tryd.prog W 0 (fun _ => true) true fuel t cs = some x) :
    ∃ (l : List α) (a : Option Addr) (cap : Nat), cs = [.slice a l.length cap] ∧ RowAt W a (l.flatMap cell) ∧ (∀ y ∈ l, ∃ d, P y d ∧ Rows.uptoBulk d ≤ Rows.uptoBulk x.1) ∧ l.length ≤ Rows.uptoBulk x.1 ∧ l.length ≤ cap := by
  rcases open_slice ht h with ⟨rfl, rfl⟩ | ⟨ad, len, cap, m, n, D, Pl, rfl, _, hlc, hcm, hm, rfl, hx⟩
  · exact ⟨[], none, 0, rfl, RowAt.nil _ _, (fun y h => absurd h List.not_mem_nil), Nat.zero_le _, Nat.zero_le _⟩
  · simp only [if_true] at hm
    rw [hm] at hx
    rw [hc] at hx
    have hlm := hlc
    have get : ∀ i, i < len → ∃ y : α, (∀ j v, (cell y)[j]? = some v → W.cell? ((ad.add (i * k)).add j) = some v) ∧ P y (D i) := fun i hi => by
      obtain ⟨cs', h1, h2⟩ := hx i (by omega)
      obtain ⟨_, hlen, hcell⟩ := World.cells?_some h1
      obtain ⟨y, rfl, hp⟩ := each _ _ _ _ h2
      refine ⟨y, fun j v hj => ?_, hp⟩
      have hj3 := (List.getElem?_eq_some_iff.1 hj).1
      rw [hcell j (by rw [← hk y]; exact hj3)]
      exact hj
    obtain ⟨q, hq⟩ := choose_lt get
    have hll : ((List.range len).map q).length = len := by simp
    refine ⟨(List.range len).map q, some ad, cap, by rw [hll], ?_, ?_, ?_, by rw [hll]; exact hlc⟩
    · by_cases h0 : len = 0
      · subst h0; exact .nil _ _
      · obtain ⟨b, off, spot⟩ := ad
        have hc0 : ∃ v, (cell (q 0))[0]? = some v := ⟨_, List.getElem?_eq_getElem (by rw [hk]; exact hkp)⟩
        obtain ⟨v0, hv0⟩ := hc0
        obtain rfl : spot = none := by
          have := World.cell?_spot ((hq 0 (by omega)).1 0 v0 hv0)
          simpa [Addr.add] using this
        refine .inr ⟨b, off, rfl, fun j v hj => ?_⟩
        have hjl : j < len * k := by
          have := (List.getElem?_eq_some_iff.1 hj).1
          rw [flat_length cell k hk, hll] at this
          exact this
        have hi : j / k < len := Nat.div_lt_of_lt_mul (by rw [Nat.mul_comm]; exact hjl)
        have hr : j % k < k := Nat.mod_lt _ hkp
        have hjd : j / k * k + j % k = j := by rw [Nat.mul_comm]; exact Nat.div_add_mod j k
        have hg := flat_get cell k hk ((List.range len).map q) (j / k) (by rw [hll]; exact hi) (j % k) hr
        rw [hjd, hj] at hg
        have he : ((List.range len).map q)[j / k]'(by rw [hll]; exact hi) = q (j / k) := by simp
        rw [he] at hg
        have := (hq (j / k) hi).1 (j % k) v hg.symm
        rw [addr_add, addr_add, Nat.add_assoc, hjd] at this
        exact this
    · intro y hy
      obtain ⟨i, hi, rfl⟩ := List.mem_map.1 hy
      have hi' := List.mem_range.1 hi
      refine ⟨D i, (hq i hi').2, ?_⟩
      have : D i ∈ (List.range len).map D := List.mem_map.2 ⟨i, hi, rfl⟩
      have h2 := bulk_part this
      simp only [Rows.uptoBulk]
      omega
    · rw [hll]
      have := bulk_len ((List.range len).map D)
      simp only [Rows.uptoBulk]
      rw [List.length_map, List.length_range] at this
      omega
theorem open_texts {H : Type} {enc : TypeId × Value → H} {W : World} {fuel : Nat} {cs : List Value} {x : DataW H × List MemPlace} (h : DataW.trod enc Tryd.prog W 0 (fun _ => true) true fuel 45 cs = some x) :
    ∃ (l : List ByteArray) (a : Option Addr) (cap : Nat), cs = [.slice a l.length cap] ∧ RowAt W a (tcells l) ∧ (∀ s ∈ l, s.size ≤ Rows.uptoBulk x.1) ∧ l.length ≤ Rows.uptoBulk x.1 := by
  obtain ⟨l, a, cap, h1, h2, h3, h4, _⟩ := open_rows (α := ByteArray) tcell (fun s d => d = .lit (.string s.data.toList)) (fun _ => rfl) (by decide) Tryd.underlying45 cells_str (fun n cs' d pl h => by
    obtain ⟨s, e1, e2, _⟩ := DataW.trod_string Tryd.underlying9 h
    simp only [Prod.mk.injEq] at e2
    exact ⟨s, e1, e2.1⟩) h
  refine ⟨l, a, cap, h1, h2, fun s hs => ?_, h4⟩
  obtain ⟨d, rfl, hd⟩ := h3 s hs
  simp [Rows.uptoBulk] at hd
  omega
instance : Inhabited (Int × Int) := ⟨(0, 0)⟩
set_option maxRecDepth 100000 in
theorem open_ports {H : Type} {enc : TypeId × Value → H} {W : World} {fuel : Nat} {cs : List Value} {x : DataW H × List MemPlace} (h : DataW.trod enc Tryd.prog W 0 (fun _ => true) true fuel 50 cs = some x) :
    ∃ (l : List (Int × Int)) (a : Option Addr) (cap : Nat), cs = [.slice a l.length cap] ∧ RowAt W a (pcells l) ∧ (∀ p ∈ l, (Lit.int .i64 p.1).wf = true ∧ (Lit.int .i64 p.2).wf = true) ∧ l.length ≤ Rows.uptoBulk x.1 ∧ l.length ≤ cap := by
  obtain ⟨l, a, cap, h1, h2, h3, h4, h5⟩ := open_rows (α := Int × Int) pcell (fun p _ => (Lit.int .i64 p.1).wf = true ∧ (Lit.int .i64 p.2).wf = true) (fun _ => rfl) (by decide) Tryd.underlying50 cells_port (fun n cs' d pl h => by
    obtain ⟨xs, k, hk, hxy, hlen, hxl, hf⟩ := DataW.trod_struct Tryd.underlying55 h
    rw [cells_port] at hlen
    match xs, hxl, cs', hlen with
    | [y0, y1], _, [v0, v1], _ =>
      have g0 := hf 0 _ rfl
      have g1 := hf 1 _ rfl
      simp [cells_int64, cells_pro] at g0 g1
      obtain ⟨k0, e0, f0, w0⟩ := DataW.trod_int Tryd.underlying2 g0
      obtain ⟨k1, e1, f1, w1⟩ := DataW.trod_int Tryd.underlying41 g1
      simp only [List.cons.injEq, and_true] at e0 e1
      subst e0 e1
      exact ⟨(k0, k1), rfl, w0, w1⟩) h
  exact ⟨l, a, cap, h1, h2, fun p hp => (h3 p hp).choose_spec.1, h4, h5⟩
set_option maxRecDepth 100000 in
theorem open_envs {H : Type} {enc : TypeId × Value → H} {W : World} {fuel : Nat} {cs : List Value} {x : DataW H × List MemPlace} (h : DataW.trod enc Tryd.prog W 0 (fun _ => true) true fuel 51 cs = some x) :
    ∃ (l : List (ByteArray × ByteArray)) (a : Option Addr) (cap : Nat), cs = [.slice a l.length cap] ∧ RowAt W a (ecells l) ∧ (∀ p ∈ l, p.1.size ≤ Rows.uptoBulk x.1 ∧ p.2.size ≤ Rows.uptoBulk x.1) ∧ l.length ≤ Rows.uptoBulk x.1 := by
  haveI : Inhabited (ByteArray × ByteArray) := ⟨(⟨#[]⟩, ⟨#[]⟩)⟩
  obtain ⟨l, a, cap, h1, h2, h3, h4, _⟩ := open_rows (α := ByteArray × ByteArray) ecell (fun p d => p.1.size ≤ Rows.uptoBulk d ∧ p.2.size ≤ Rows.uptoBulk d) (fun _ => rfl) (by decide) Tryd.underlying51 cells_env (fun n cs' d pl h => by
    obtain ⟨xs, k, hk, hxy, hlen, hxl, hf⟩ := DataW.trod_struct Tryd.underlying64 h
    rw [cells_env] at hlen
    match xs, hxl, cs', hlen with
    | [y0, y1], _, [v0, v1], _ =>
      have g0 := hf 0 _ rfl
      have g1 := hf 1 _ rfl
      simp [cells_str] at g0 g1
      obtain ⟨k0, e0, f0, _⟩ := DataW.trod_string Tryd.underlying9 g0
      obtain ⟨k1, e1, f1, _⟩ := DataW.trod_string Tryd.underlying9 g1
      simp only [List.cons.injEq, and_true] at e0 e1
      subst e0 e1
      simp only [Prod.mk.injEq] at hxy
      refine ⟨(k0, k1), rfl, ?_, ?_⟩
      · rw [hxy.1, f0, f1]
        simp [Rows.uptoBulk, Rows.uptoBulkAll]
        omega
      · rw [hxy.1, f0, f1]
        simp [Rows.uptoBulk, Rows.uptoBulkAll]
        omega) h
  exact ⟨l, a, cap, h1, h2, fun p hp => by obtain ⟨d, h5, h6⟩ := h3 p hp; exact ⟨by omega, by omega⟩, h4⟩
set_option maxRecDepth 100000 in
set_option maxHeartbeats 1000000 in
theorem open_cont {H : Type} {enc : TypeId × Value → H} {W : World} {fuel : Nat} {cs : List Value} {d : DataW H} {pl : List MemPlace} (h : DataW.trod enc Tryd.prog W 0 (fun _ => true) true fuel 53 cs = some (d, pl)) :
    ∃ m : CM, cs = m.cells ∧ m.In W ∧ (Rows.uptoBulk d ≤ 1048576 → m.c.Low) := by
  obtain ⟨xs, k, hk, hxy, hlen, hxl, hf⟩ := DataW.trod_struct Tryd.underlying53 h
  rw [cells_cont] at hlen
  match xs, hxl, cs, hlen with
  | [y0, y1, y2, y3, y4, y5, y6], _, [v0, v1, v2, v3, v4, v5, v6], _ =>
    have g0 := hf 0 _ rfl
    have g1 := hf 1 _ rfl
    have g2 := hf 2 _ rfl
    have g3 := hf 3 _ rfl
    have g4 := hf 4 _ rfl
    have g5 := hf 5 _ rfl
    have g6 := hf 6 _ rfl
    simp [cells_str, cells_int64, cells_sstr, cells_sport, cells_senv] at g0 g1 g2 g3 g4 g5 g6
    obtain ⟨k0, e0, f0, _⟩ := DataW.trod_string Tryd.underlying9 g0
    obtain ⟨k1, e1, f1, _⟩ := DataW.trod_string Tryd.underlying9 g1
    obtain ⟨k2, a2, c2, e2, r2, b2, n2⟩ := open_texts g2
    obtain ⟨k3, a3, c3, e3, r3, b3, n3, o3⟩ := open_ports g3
    obtain ⟨k4, e4, f4, w4⟩ := DataW.trod_int Tryd.underlying2 g4
    obtain ⟨k5, e5, f5, w5⟩ := DataW.trod_int Tryd.underlying2 g5
    obtain ⟨k6, a6, c6, e6, r6, b6, n6⟩ := open_envs g6
    simp only [List.cons.injEq, and_true] at e0 e1 e2 e3 e4 e5 e6
    subst e0 e1 e2 e3 e4 e5 e6
    simp only [Prod.mk.injEq] at hxy
    refine ⟨⟨⟨k0, k1, k2, k3, k4, k5, k6⟩, a2, c2, a3, c3, a6, c6⟩, rfl, ⟨r2, r3, r6, o3⟩, fun hb => ?_⟩
    have hall : Rows.uptoBulk y0.1 + (Rows.uptoBulk y1.1 + (Rows.uptoBulk y2.1 + (Rows.uptoBulk y3.1 + Rows.uptoBulk y6.1))) ≤ 1048576 := by
      rw [hxy.1] at hb
      simp only [List.map_cons, List.map_nil, Rows.uptoBulk, Rows.uptoBulkAll] at hb
      omega
    have s0 : k0.size ≤ Rows.uptoBulk y0.1 := by rw [f0]; simp [Rows.uptoBulk]
    have s1 : k1.size ≤ Rows.uptoBulk y1.1 := by rw [f1]; simp [Rows.uptoBulk]
    exact { name := by show k0.size ≤ _; omega, image := by show k1.size ≤ _; omega, lc := by show k2.length ≤ _; omega, lp := by show k3.length ≤ _; omega, le := by show k6.length ≤ _; omega,
            cmd := fun s hs => by have := b2 s hs; omega, env := fun v hv => by have := b6 v hv; omega, icpu := w4, imem := w5, ip := b3 }
set_option maxRecDepth 100000 in
set_option maxHeartbeats 1000000 in
theorem open_pod {H : Type} {enc : TypeId × Value → H} {W : World} {fuel : Nat} {cs : List Value} {d : DataW H} {pl : List MemPlace} (h : DataW.trod enc Tryd.prog W 0 (fun _ => true) true fuel 25 cs = some (d, pl)) :
    ∃ p : PM, cs = p.val.cells.toList ∧ p.At W ∧ (Rows.uptoBulk d ≤ 1048576 → p.Low) := by
  haveI : Inhabited CM := ⟨⟨⟨⟨#[]⟩, ⟨#[]⟩, [], [], 0, 0, []⟩, none, 0, none, 0, none, 0⟩⟩
  obtain ⟨xs, k, hk, hxy, hlen, hxl, hf⟩ := DataW.trod_struct Tryd.underlying25 h
  rw [cells_pod] at hlen
  match xs, hxl, cs, hlen with
  | [y0, y1, y2, y3, y4, y5], _, [v0, v1, v2, v3, v4, v5], _ =>
    have g0 := hf 0 _ rfl
    have g1 := hf 1 _ rfl
    have g2 := hf 2 _ rfl
    have g3 := hf 3 _ rfl
    have g4 := hf 4 _ rfl
    have g5 := hf 5 _ rfl
    simp [cells_str, cells_int64, cells_res, cells_bool, cells_scont] at g0 g1 g2 g3 g4 g5
    obtain ⟨k0, e0, f0, _⟩ := DataW.trod_string Tryd.underlying9 g0
    obtain ⟨k1, e1, f1, _⟩ := DataW.trod_string Tryd.underlying9 g1
    obtain ⟨k2, e2, f2, w2⟩ := DataW.trod_int Tryd.underlying22 g2
    obtain ⟨k3, e3, f3, w3⟩ := DataW.trod_int Tryd.underlying2 g3
    obtain ⟨k4, e4, f4⟩ := DataW.trod_bool Tryd.underlying4 g4
    obtain ⟨l, a, cap, e5, r5, b5, n5, l5⟩ := open_rows (α := CM) CM.cells (fun m d => m.In W ∧ (Rows.uptoBulk d ≤ 1048576 → m.c.Low)) (fun _ => rfl) (by decide) Tryd.underlying23 cells_cont (fun n cs' d pl h => open_cont h) g5
    simp only [List.cons.injEq, and_true] at e0 e1 e2 e3 e4 e5
    subst e0 e1 e2 e3 e4 e5
    simp only [Prod.mk.injEq] at hxy
    refine ⟨⟨k0, k1, k2, k3, k4, a, cap, l⟩, rfl, ⟨r5, fun m hm => by obtain ⟨d, h1, _⟩ := b5 m hm; exact h1.1, l5⟩, fun hb => ?_⟩
    have hall : Rows.uptoBulk y0.1 + (Rows.uptoBulk y1.1 + Rows.uptoBulk y5.1) ≤ 1048576 := by
      rw [hxy.1] at hb
      simp only [List.map_cons, List.map_nil, Rows.uptoBulk, Rows.uptoBulkAll] at hb
      omega
    have s0 : k0.size ≤ Rows.uptoBulk y0.1 := by rw [f0]; simp [Rows.uptoBulk]
    have s1 : k1.size ≤ Rows.uptoBulk y1.1 := by rw [f1]; simp [Rows.uptoBulk]
    exact { name := by show k0.size ≤ _; omega, ns := by show k1.size ≤ _; omega, ir := w2, ig := w3, len := by show l.length ≤ _; omega,
            cs := fun m hm => by obtain ⟨d, h1, h2⟩ := b5 m hm; exact h1.2 (by omega) }
end Go.Proofs.YtfhhmajkacjbgaaDoor

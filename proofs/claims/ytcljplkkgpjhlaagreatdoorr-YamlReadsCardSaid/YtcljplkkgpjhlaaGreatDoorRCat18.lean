/-
  Parts of the proof: VDepth VFault VAwake VMapOne VRow.
-/
import Derived.Test.YtcljplkkgpjhlaaGreatDoorRCat05
import Derived.Test.YtcljplkkgpjhlaaGreatDoorRCat16
import Derived.RegionTactic
import Derived.Lib.SliceRun
import Derived.Test.YtcljplkkgpjhlaaGreatDoorRCat17
set_option maxRecDepth 100000
set_option maxHeartbeats 8000000
namespace Go.Proofs.YtcljplkkgpjhlaaGreatDoorR
namespace v
open Go.ChangeShapes Go.WideShapes Go.ChangeAt Go.RowKit
variable {w : World}
theorem info64 : (Tryz.prog.info? 80).map (fun i => (i.zero, i.size, i.bytes)) = some (some (.agg #[.int .i64 0, .bool false, .int .i64 0, .string ⟨#[]⟩, .slice none 0 0, .slice none 0 0, .int .i64 0]), 7, 96) := by kernel_rfl
theorem sizeL_take (l : List V) : ∀ k : Nat, sizeL (l.take k) ≤ sizeL l := by
  induction l with
  | nil => intro k; simp
  | cons v l ih =>
    intro k
    cases k with
    | zero => simp [sizeL]
    | succ k => have := ih k; simp only [List.take_succ_cons, sizeL]; omega
def wcellsOf (p : M × Nat) : List Value := p.1.cells ++ [.int .i64 p.2]
def wcells (l : List (M × Nat)) : List Value := l.flatMap wcellsOf
theorem wcellsOf_length (p : M × Nat) : (wcellsOf p).length = 7 := by simp [wcellsOf, cells_length]
theorem wcells_snoc (l : List (M × Nat)) (p : M × Nat) : wcells (l ++ [p]) = wcells l ++ wcellsOf p := flat_snoc _ _ _
theorem wcells_length (l : List (M × Nat)) : (wcells l).length = l.length * 7 := flat_length _ _ wcellsOf_length l
theorem wcells_one (p : M × Nat) : ∀ u ∈ wcellsOf p, u.oneCell' = true := by
  intro u hu
  unfold wcellsOf at hu
  rw [List.mem_append, List.mem_singleton] at hu
  rcases hu with hu | rfl
  · exact cells_one _ u hu
  · rfl
def pst (l : List (M × Nat)) : List (V × Nat) := l.map fun p => (p.1.plain, p.2)
theorem pst_append (l m : List (M × Nat)) : pst (l ++ m) = pst l ++ pst m := by simp [pst]
def pushM (l : List M) (n : Nat) : List (M × Nat) := (l.filter fun m => m.plain.holds).map fun m => (m, n)
theorem pst_pushM (l : List M) (n : Nat) : pst (pushM l n) = pushed (l.map M.plain) n := by
  induction l with
  | nil => rfl
  | cons m l ih =>
    unfold pst pushM pushed at *
    simp only [List.map_cons, List.filter_cons]
    split <;> simp [ih]
theorem pushM_take (l : List M) (n k : Nat) (hk : k < l.length) : pushM (l.take (k + 1)) n = pushM (l.take k) n ++ if l[k].plain.holds = true then [(l[k], n)] else [] := by
  unfold pushM
  rw [List.take_succ_eq_append_getElem hk, List.filter_append, List.map_append]
  cases h : l[k].plain.holds <;> simp [h]
theorem pushM_mem {l : List M} {n : Nat} {p : M × Nat} (h : p ∈ pushM l n) : p.1 ∈ l ∧ p.1.plain.holds = true ∧ p.2 = n := by
  unfold pushM at h
  obtain ⟨m, hm, rfl⟩ := List.mem_map.1 h
  rw [List.mem_filter] at hm
  exact ⟨hm.1, by simpa using hm.2, rfl⟩
structure Left (w wr : World) (a : Option Addr) (c : Nat) (st : List (M × Nat)) : Prop where
  own : wr.ownsRow w.heap.size 80 7 (.slice a st.length c) st.length (wcells st)
  fresh : Fresh w wr
structure Todo (w : World) (R d : Nat) (st : List (M × Nat)) : Prop where
  all : ∀ p ∈ st, p.1.At w ∧ p.1.plain.holds = true ∧ 1 ≤ p.2
  bd : max d (bnd (pst st)) = R
theorem Todo.step {w : World} {R d : Nat} {st : List (M × Nat)} {m : M} {n : Nat} (h : Todo w R d (st ++ [(m, n)])) : Todo w R (max d n) (st ++ pushM m.inside (n + 1)) := by
  obtain ⟨h1, h2, h3⟩ := h.all (m, n) (by simp)
  refine ⟨fun p hp => ?_, ?_⟩
  · rcases List.mem_append.1 hp with hp | hp
    · exact h.all p (by simp [hp])
    · obtain ⟨a, b, c⟩ := pushM_mem hp
      exact ⟨h1.inside _ a, b, by omega⟩
  · have := bnd_step (pst st) m.plain n d h2 h3
    rw [← h.bd, pst_append, pst_append, pst_pushM, ← plain_inside]
    exact this.symm
theorem Todo.bound {w : World} {R d : Nat} {st : List (M × Nat)} {m : M} {n : Nat} (h : Todo w R d (st ++ [(m, n)])) : 1 ≤ n ∧ n ≤ R ∧ d ≤ R := by
  obtain ⟨_, h2, h3⟩ := h.all (m, n) (by simp)
  have := bnd_mem (l := pst (st ++ [(m, n)])) (v := m.plain) (n := n) (by simp [pst])
  have hd := m.plain.depth_holds h2
  have := h.bd
  have hn : 1 ≤ n := h3
  refine ⟨hn, ?_, by omega⟩
  omega
theorem Left.last {w wr : World} {a : Option Addr} {c : Nat} {st : List (M × Nat)} {m : M} {n : Nat} (h : Left w wr a c (st ++ [(m, n)])) :
    ∃ g, a = some ⟨g, 0, none⟩ ∧ w.heap.size ≤ g ∧ st.length + 1 ≤ c ∧ m.lies wr g (st.length * 7) ∧ wr.cell? ⟨g, st.length * 7 + 6, none⟩ = some (.int .i64 n) ∧ Left w wr a c st := by
  have ho := h.own
  rw [wcells_snoc, List.length_append, List.length_singleton] at ho
  have hrow := RowAt.owns ho
  have hpop := owns_pop ho (wcellsOf_length _)
  rcases ho.2 with ⟨_, e⟩ | ⟨g, cap, cur, e, hb, _, hnc, _⟩
  · omega
  · cases e
    rcases hrow with ⟨e, _⟩ | ⟨g', e, hrow⟩
    · cases e
    · cases e
      have hg : ∀ j x, (wcellsOf (m, n))[j]? = some x → wr.cell? ⟨g, st.length * 7 + j, none⟩ = some x := fun j x hj => hrow _ _ (by
        rw [List.getElem?_append_right (by rw [wcells_length]; omega), wcells_length, Nat.add_sub_cancel_left]; exact hj)
      refine ⟨g, rfl, hb, hnc, M.lies.of _ fun j x hj => hg j x ?_, hg 6 _ ?_, hpop, h.fresh⟩
      · unfold wcellsOf
        rw [List.getElem?_append_left (List.getElem?_eq_some_iff.1 hj).1]; exact hj
      · unfold wcellsOf
        rw [List.getElem?_append_right (by rw [cells_length]; omega), cells_length]; rfl
theorem Left.push {w w1 w2 : World} {a : Option Addr} {c g cap : Nat} {st : List (M × Nat)} {p : M × Nat} (h : Left w w1 a c st) (o : Obj) (ho : w2.ownsRow w.heap.size 80 7 (.slice (some ⟨g, 0, none⟩) (st.length + 1) cap) (st.length + 1) (wcells st ++ wcellsOf p)) (hg : (w1.alloc o).grownBy w2 (Value.slice a st.length c).ownBlock) : Left w w2 (some ⟨g, 0, none⟩) cap (st ++ [p]) :=
  ⟨by rw [wcells_snoc, List.length_append, List.length_singleton]; exact ho, own_grown (Nat.le_refl _) (World.ownsRow.alloc h.own o) (h.fresh.alloc o) hg⟩
theorem Left.move {w wr w' : World} {a : Option Addr} {c : Nat} {st : List (M × Nat)} (h : Left w wr a c st) (f : Fresh wr w') : Left w w' a c st := ⟨owns_move h.own f, h.fresh.trans f⟩
def Apart (a b : Option Addr) (l : List M) : Prop := l ≠ [] → ∀ x y : Addr, a = some x → b = some y → x.block ≠ y.block
theorem apart_start {w W : World} {g : Nat} {ia : Option Addr} {x : M} (hx : x.At w) (hg : w.heap.size ≤ g) (hgW : g < W.heap.size) (h : (∀ w0, x.At w0 → RowAt w0 ia (mcells x.inside)) ∨ ∀ ad : Addr, ia = some ad → W.heap.size ≤ ad.block) : Apart (some ⟨g, 0, none⟩) ia x.inside := by
  intro hne p q hp hq
  cases hp
  rcases h with h | h
  · have hc : mcells x.inside ≠ [] := fun e => hne (by
      have := congrArg List.length e
      rw [mcells_length] at this
      simp only [List.length_nil] at this
      exact List.eq_nil_of_length_eq_zero (by omega))
    have := (h w hx).lt hc q hq
    show g ≠ q.block
    omega
  · have := h q hq
    show g ≠ q.block
    omega
theorem after_push {w W w5 : World} {a' ia : Option Addr} {c' q g' cap' bx lev : Nat} {ST : List (M × Nat)} {p : M × Nat} {ins : List M} (o : Obj)
    (hq : q = ST.length) (hL : Left w W a' c' ST) (hR : RowAt W ia (mcells ins)) (hne : ins ≠ []) (hA : Apart a' ia ins) (hlv : W.cell? ⟨bx, 6, none⟩ = some (.int .i64 lev)) (hB : ∀ ad : Addr, a' = some ad → ad.block ≠ bx)
    (hown : w5.ownsRow w.heap.size 80 7 (.slice (some ⟨g', 0, none⟩) (q + 1) cap') (q + 1) (wcells ST ++ wcellsOf p)) (hgrow : (W.alloc o).grownBy w5 (Value.slice a' q c').ownBlock) (hat : (Value.slice a' q c').ownBlock = some g' ∨ g' = W.heap.size + 1) :
    Left w w5 (some ⟨g', 0, none⟩) cap' (ST ++ [p]) ∧ RowAt w5 ia (mcells ins) ∧ Apart (some ⟨g', 0, none⟩) ia ins ∧ w5.cell? ⟨bx, 6, none⟩ = some (.int .i64 lev) ∧ ∀ ad : Addr, some (⟨g', 0, none⟩ : Addr) = some ad → ad.block ≠ bx := by
  subst hq
  have hb : ∀ k, (Value.slice a' ST.length c').ownBlock = some k → ∃ ad : Addr, a' = some ad ∧ ad.block = k := fun k h => by
    cases a' with
    | none => cases h
    | some ad => exact ⟨ad, rfl, by simpa [Value.ownBlock] using h⟩
  have hc : mcells ins ≠ [] := fun e => hne (by
    have := congrArg List.length e
    rw [mcells_length] at this
    simp only [List.length_nil] at this
    exact List.eq_nil_of_length_eq_zero (by omega))
  have hbx := World.block_lt_of_cell? W _ hlv
  refine ⟨hL.push o hown hgrow, (hR.move ((Fresh.refl W).alloc o)).grown hgrow (fun ad e h => ?_), fun _ x y hx hy => ?_, ?_, fun ad e => ?_⟩
  · obtain ⟨x, hx, hxb⟩ := hb _ h.symm
    exact hA hne x ad hx e hxb
  · cases hx
    rcases hat with h | h
    · obtain ⟨x, hx, hxb⟩ := hb _ h
      have := hA hne x y hx hy
      show g' ≠ y.block
      omega
    · have := hR.lt hc y hy
      show g' ≠ y.block
      omega
  · refine hgrow.cell (((Fresh.refl W).alloc o).cell hlv) (fun h => ?_)
    obtain ⟨x, hx, hxb⟩ := hb _ h.symm
    exact hB x hx hxb
  · cases e
    rcases hat with h | h
    · obtain ⟨x, hx, hxb⟩ := hb _ h
      have := hB x hx
      show g' ≠ bx
      omega
    · have : bx < W.heap.size := hbx
      show g' ≠ bx
      omega
theorem box6 {w : World} {b : Nat} {c0 c1 c2 c3 c4 c5 : Value} {T : TypeId} {z : Nat × Nat} (h : w.heap[b]? = some (.cells #[c0, c1, c2, c3, c4, c5] T z)) :
    w.cell? ⟨b, 0, none⟩ = some c0 ∧ w.cell? ⟨b, 1, none⟩ = some c1 ∧ w.cell? ⟨b, 2, none⟩ = some c2 ∧ w.cell? ⟨b, 3, none⟩ = some c3 ∧ w.cell? ⟨b, 4, none⟩ = some c4 ∧ w.cell? ⟨b, 5, none⟩ = some c5 :=
  ⟨cell_of_at h rfl, cell_of_at h rfl, cell_of_at h rfl, cell_of_at h rfl, cell_of_at h rfl, cell_of_at h rfl⟩
theorem left_start (m : M) (w W : World) (b : Nat) (hb : W.heap[b]? = some (.cells (m.cells ++ [Value.int .i64 1]).toArray 80 (0, 0))) (hle : w.heap.size ≤ b) (hf : Fresh w W) : Left w W (some ⟨b, 0, none⟩) 1 [(m, 1)] :=
  ⟨by
    have := owns_built (B := w.heap.size) (k := 7) (n := 1) hb hle (by simp [cells_length]) (by decide)
    simpa [wcells, wcellsOf] using this, hf⟩
theorem depth_yes (m : M) (w : World) (h : m.At w) (hs : m.plain.size ≤ 1000000) (hh : m.plain.holds = true) :
    Calls Tryz.prog 17 #[m.val] w fun e w' => e = .returned (.int .i64 m.plain.depth) ∧ Fresh w w' := by
  obtain ⟨i0, hi, hz0, hz1, hz2⟩ := info_parts info64
  have hR : m.plain.depth ≤ 1000000 := Nat.le_trans m.plain.depth_size hs
  have HR : Hid (Todo w m.plain.depth 0 [(m, 1)]) := ⟨fun p hp => by rw [List.mem_singleton] at hp; subst hp; exact ⟨h, hh, Nat.le_refl _⟩, by simp [pst, bnd]⟩
  have HZ : Hid (szs (pst [(m, 1)]) ≤ 1000000) := by simp [Hid, pst, szs]; exact hs
  have HQ : Hid (∀ W, Calls Tryz.prog 41 #[m.val] W fun e w' => e = .returned (.bool true) ∧ Fresh W w') := fun W => by rw [← hh]; exact holds_any m W
  have HL := Lib.hid (left_start m w)
  generalize m.plain.depth = R at *
  clear h hh hs
  obtain ⟨k, f, n, s, la, lc, l, ka, kc, ks⟩ := m
  dsimp only [M.val, M.cells] at *
  generalize hM : M.mk k f n s la lc l ka kc ks = m at *
  clear hM
  generalize l.length = ln at *
  generalize ks.length = kn at *
  go_enter Tryz.func17, Tryz.ntmps17
  go_wp2_with fail
  refine (HQ.out _).mono ?_
  rintro e w1 ⟨rfl, hf⟩
  obtain ⟨b0, b1, b2, b3, b4, b5⟩ := box6 (hf.at (at_new w _))
  have HF := Lib.hid (((Fresh.refl w).alloc _).trans hf)
  have hz : w.heap.size < w1.heap.size := World.block_lt_of_cell? w1 _ b0
  clear hf
  go_wp2
  have HL1 : Hid (Left w _ _ _ _) := HL.out _ w1.heap.size (at_new w1 _) (Nat.le_of_lt hz) (HF.out.alloc _)
  clear HL b0 b1 b2 b3 b4 b5
  go_loopg [3, 4] (szs (pst [(m, 1)])) (fun gg a3 a4 wr => ∃ (d c q : Nat) (a : Option Addr) (st : List (M × Nat)), a3 = .int .i64 d ∧ a4 = .slice a q c ∧ Hid (q = st.length) ∧ Hid (szs (pst st) ≤ gg) ∧ Hid (gg ≤ 1000000) ∧ Hid (Left w wr a c st) ∧ Hid (Todo w R d st))
  case atStart => exact ⟨0, 1, 1, _, [(m, 1)], rfl, rfl, rfl, Nat.le_refl _, HZ, HL1, HR⟩
  case round =>
    obtain ⟨d, c, q, a, st, rfl, rfl, HN, HG, HG2, HLe, HT⟩ := hrel
    obtain ⟨wo, rfl⟩ : ∃ wo : World, wo = wr := ⟨_, rfl⟩
    clear HL1 HR HZ
    rcases List.eq_nil_or_concat st with rfl | ⟨st0, ⟨x, lev⟩, e⟩
    · have hd := HT.out.bd
      simp only [pst, List.map_nil, bnd] at hd
      have hD : d = R := by omega
      have HD := Lib.hid hD
      clear hD
      obtain rfl : q = 0 := HN.out
      clear hd
      go_wp2
      go_ret
      exact ⟨ret_int (by rw [HD.out]), HLe.out.fresh⟩
    · rw [List.concat_eq_append] at e
      subst e
      obtain ⟨g, ea, hgB, hpc, hlie, hlev, hleft⟩ := HLe.out.last
      obtain rfl : q = st0.length + 1 := by rw [HN.out]; simp
      subst ea
      obtain ⟨hl1, hl2, hl3⟩ := HT.out.bound
      have HT2 := Lib.hid HT.out.step
      have hxm := HT.out.all (x, lev) (by simp)
      have hfr := hleft.fresh
      have HI : Hid (∀ W, Fresh w W → Calls Tryz.prog 39 #[x.val] W (InsideIs x W)) := fun W hf => inside_any x W (hxm.1.move hf)
      have HAT : Hid (x.At w) := hxm.1
      have HLF := Lib.hid hleft
      have HSZ : Hid (szs (pst (st0 ++ [(x, lev)])) ≤ gk) := HG.out
      have hpb : st0.length + 1 ≤ 1000000 := by have h1 := szs_length (pst (st0 ++ [(x, lev)])); have h2 := HSZ.out; have h3 := HG2.out; simp [pst] at h1 h2; omega
      have HFR := Lib.hid hfr
      have hgl : g < wo.heap.size := World.block_lt_of_cell? wo _ hlev
      clear HLe HT hleft hxm hfr HG HN
      generalize hp : st0.length = p at *
      have HP := Lib.hid hp
      clear hp
      obtain ⟨xk, xf, xn, xs, xla, xlc, xl, xka, xkc, xks⟩ := x
      obtain ⟨c0, c1, c2, c3, c4, c5⟩ := hlie
      dsimp only [M.val] at HI
      generalize hX : M.mk xk xf xn xs xla xlc xl xka xkc xks = x at *
      clear hX
      generalize xl.length = xln at *
      generalize xks.length = xkn at *
      go_wp2_with fail
      refine (HI.out _ (HFR.out.alloc _)).mono ?_
      rintro e w2 ⟨ia, ic, rfl, hrow, hf2, hsep⟩
      have HAP := Lib.hid (apart_start HAT.out hgB (by rw [World.size_alloc]; omega) hsep)
      have hlv : w2.cell? ⟨wo.heap.size, 6, none⟩ = some (.int .i64 lev) := hf2.cell (cell_of_at (at_new wo _) rfl)
      have HLF2 := Lib.hid ((HLF.out.move ((Fresh.refl wo).alloc _)).move hf2)
      have HROW := Lib.hid hrow
      have hgw : g ≠ wo.heap.size := by omega
      clear hrow hf2 hsep HI HAT c0 c1 c2 c3 c4 c5 hlev
      have hil : x.inside.length ≤ 1000000 := by
        have h1 := szs_step (pst st0) x.plain lev (lev + 1)
        have h2 := HSZ.out
        have h3 := HG2.out
        have h4 := length_le_size (x.plain.inside)
        have h5 := size_inside x.plain
        rw [plain_inside, List.length_map] at h4
        rw [pst_append, szs_append] at h2
        simp only [pst, List.map_cons, List.map_nil, szs] at h2
        rw [plain_inside] at h5
        omega
      have HST : Hid (∀ j, szs (pst (st0 ++ pushM (x.inside.take j) (lev + 1))) < gk) := fun j => by
        have h1 := szs_pushed ((x.inside.take j).map M.plain) (lev + 1)
        have h2 := HSZ.out
        have h5 := size_inside x.plain
        have h6 : sizeL ((x.inside.take j).map M.plain) ≤ sizeL (x.inside.map M.plain) := by
          rw [List.map_take]; exact sizeL_take _ _
        rw [pst_append, szs_append] at h2 ⊢
        rw [pst_pushM]
        simp only [pst, List.map_cons, List.map_nil, szs] at h2 ⊢
        rw [plain_inside] at h5
        omega
      generalize x.inside = ins at *
      go_wp2
      go_loopw [4, 36] (fun a4 a36 wq => ∃ (j c' q : Nat) (a' : Option Addr), j ≤ ins.length ∧ a4 = .slice a' q c' ∧ a36 = .int .i64 j ∧ Hid (q = (st0 ++ pushM (ins.take j) (lev + 1)).length) ∧ Hid (Left w wq a' c' (st0 ++ pushM (ins.take j) (lev + 1))) ∧ Hid (RowAt wq ia (mcells ins)) ∧ Hid (Apart a' ia ins) ∧ wq.cell? ⟨wo.heap.size, 6, none⟩ = some (.int .i64 lev) ∧ Hid (∀ ad : Addr, a' = some ad → ad.block ≠ wo.heap.size)) (fun _ a36 _ => ins.length - (intOf a36).toNat)
      case atStart => exact ⟨0, c, p, some ⟨g, 0, none⟩, Nat.zero_le _, rfl, rfl, by simp [Hid, pushM]; exact HP.out.symm, by have := HLF2.out; simpa [Hid, pushM] using this, HROW, HAP, hlv, fun ad h => by cases h; exact hgw⟩
      case round =>
        obtain ⟨j, c', q, a', hj, rfl, rfl, HN, HL3, HR3, HA3, hlv3, HB3⟩ := hrel
        clear HLF2 HROW HAP hlv
        by_cases hlt : j < ins.length
        · obtain ⟨gi, ei⟩ := row_some HR3.out j hlt
          subst ei
          have hy := mrow_get HR3.out j hlt
          have HPT := Lib.hid (pushM_take ins (lev + 1) j hlt)
          have HQ2 : Hid (∀ W, Calls Tryz.prog 41 #[ins[j].val] W fun e w' => e = .returned (.bool ins[j].plain.holds) ∧ Fresh W w') := fun W => holds_any _ W
          have HNE : Hid (ins ≠ []) := List.ne_nil_of_length_pos (by omega)
          generalize ins[j] = y at *
          have HU := Lib.hid (wcells_one (y, lev + 1))
          generalize y.plain.holds = b at *
          obtain ⟨yk, yf, yn, ys, yla, ylc, yl, yka, ykc, yks⟩ := y
          obtain ⟨d0, d1, d2, d3, d4, d5⟩ := hy
          dsimp only [M.val] at HQ2
          have HWC : Hid (wcellsOf (M.mk yk yf yn ys yla ylc yl yka ykc yks, lev + 1) = [.int .i64 yk, .bool yf, .int .i64 yn, .string ys, .slice yla yl.length ylc, .slice yka yks.length ykc, .int .i64 (lev + 1)]) := by
            simp [Hid, wcellsOf, M.cells]
          generalize hY : M.mk yk yf yn ys yla ylc yl yka ykc yks = y at *
          clear hY
          generalize yl.length = yln at *
          generalize yks.length = ykn at *
          have hbq : wo.heap.size < wr.heap.size := World.block_lt_of_cell? wr _ hlv3
          have hgq : gi < wr.heap.size := World.block_lt_of_cell? wr _ d0
          cases b with
          | false =>
            go_wp2_with fail
            refine (HQ2.out _).mono ?_
            rintro e w4 ⟨rfl, hf4⟩
            have HF4 := Lib.hid (((Fresh.refl wr).alloc _).trans hf4)
            have hlv4 := HF4.out.cell hlv3
            clear hf4 hlv3 d0 d1 d2 d3 d4 d5
            go_wp2
            go_roundw
            case rel => exact ⟨j + 1, c', q, a', by omega, rfl, by go_num, by rw [Hid, HPT.out]; simpa using HN.out, by rw [Hid, HPT.out]; have := HL3.out.move HF4.out; simpa using this, HR3.out.move HF4.out, HA3, hlv4, HB3⟩
            case measure => simp [intOf]; omega
          | true =>
            have hq6 : q + 1 ≤ 2000000 := by
              have h1 := szs_length (pst (st0 ++ pushM (ins.take j) (lev + 1)))
              have h2 := HST.out j
              have h3 := HG2.out
              have h4 : q = _ := HN.out
              rw [show (pst (st0 ++ pushM (ins.take j) (lev + 1))).length = (st0 ++ pushM (ins.take j) (lev + 1)).length by simp [pst]] at h1
              omega
            have hm1 : q + 1 ≤ maxLen := by unfold maxLen; omega
            have hm2 : (q + 1) * 96 ≤ 140737488355328 := by omega
            have HAF : Hid (∀ {W w5 : World} {g' cap' : Nat} (o : Obj), Fresh wr W → w5.ownsRow w.heap.size 80 7 (.slice (some ⟨g', 0, none⟩) (q + 1) cap') (q + 1) (wcells (st0 ++ pushM (ins.take j) (lev + 1)) ++ wcellsOf (y, lev + 1)) → (W.alloc o).grownBy w5 (Value.slice a' q c').ownBlock → ((Value.slice a' q c').ownBlock = some g' ∨ g' = W.heap.size + 1) → _) :=
              fun o hf h1 h2 h3 => after_push (p := (y, lev + 1)) o HN.out (HL3.out.move hf) (HR3.out.move hf) HNE.out HA3.out (hf.cell hlv3) HB3.out h1 h2 h3
            have HOW : Hid (∀ W, Fresh wr W → W.ownsRow w.heap.size 80 7 (.slice a' q c') q (wcells (st0 ++ pushM (ins.take j) (lev + 1)))) := fun W hf => by
              have h1 := (HL3.out.move hf).own
              rw [← (show q = _ from HN.out)] at h1
              exact h1
            have HLO : Hid (∀ W, Fresh wr W → w.heap.size ≤ W.heap.size) := fun W hf => (HL3.out.move hf).fresh.size
            have HNX : Hid (q + 1 = (st0 ++ pushM (ins.take j) (lev + 1) ++ [(y, lev + 1)]).length) := by
              have h4 : q = _ := HN.out
              rw [Hid, List.length_append, ← h4]; rfl
            have HEQ : Hid (st0 ++ pushM (ins.take (j + 1)) (lev + 1) = st0 ++ pushM (ins.take j) (lev + 1) ++ [(y, lev + 1)]) := by
              rw [Hid, HPT.out, if_pos rfl, ← List.append_assoc]
            rw [HWC.out] at HAF HU
            generalize st0 ++ pushM (ins.take j) (lev + 1) = ST at *
            go_wp2_with fail
            refine (HQ2.out _).mono ?_
            rintro e w4 ⟨rfl, hf4⟩
            have hf5 := ((Fresh.refl wr).alloc (.cells #[.int .i64 yk, .bool yf, .int .i64 yn, .string ys, .slice yla yln ylc, .slice yka ykn ykc] 27)).trans hf4
            have HF4 := Lib.hid hf5
            have hlv4 := hf5.cell hlv3
            obtain ⟨t0, t1, t2, t3, t4, t5⟩ := box6 (hf4.at (at_new wr _))
            have hb4 : wr.heap.size < w4.heap.size := World.block_lt_of_cell? w4 _ t0
            have hRd := Lib.hid (Ready.mk' (B := w.heap.size) (k := 7) #[.int .i64 yk, .bool yf, .int .i64 yn, .string ys, .slice yla yln ylc, .slice yka ykn ykc, .int .i64 (lev + 1)] 80 (HOW.out w4 hf5) (HLO.out w4 hf5))
            clear hf4 hf5 hlv3 d0 d1 d2 d3 d4 d5 HOW HLO
            go_wp2_with (first
              | (at_builtin; refine wpList_append_lies _ rfl _ _ 81 rfl w.heap.size 80 i0 _ 7 96 Tryz.underlying81 hi hz0 hz1 hz2 rfl (by decide) (.slice a' q c') q (wcells ST) rfl hRd.out.own ⟨w4.heap.size, 0, none⟩ 1 1 [.int .i64 yk, .bool yf, .int .i64 yn, .string ys, .slice yla yln ylc, .slice yka ykn ykc, .int .i64 (lev + 1)] rfl rfl hRd.out.box HU.out (by decide) hm1 hm2 hRd.out.low _ rfl ?_; intro g' cap' w5 hown5 hgrow5 hat5 hlt5; have HE := Lib.hid (HAF.out _ HF4.out hown5 hgrow5 (by simpa using hat5)); clear hown5 hgrow5 hat5 hlt5)
              | go_in)
            go_roundw
            case rel => exact ⟨j + 1, cap', q + 1, some ⟨g', 0, none⟩, by omega, rfl, by go_num, by rw [Hid, HEQ.out]; exact HNX.out, by rw [Hid, HEQ.out]; exact HE.out.1, HE.out.2.1, HE.out.2.2.1, HE.out.2.2.2.1, HE.out.2.2.2.2⟩
            case measure => simp [intOf]; omega
        · obtain rfl : j = ins.length := by omega
          have HS := Lib.hid (HST.out ins.length)
          rw [List.take_length] at HN HL3 HS
          go_wp2
          go_roundg (szs (pst (st0 ++ pushM ins (lev + 1))))
          case measure => exact HS.out
          case rel => exact ⟨max d lev, c', q, a', st0 ++ pushM ins (lev + 1), by go_num, rfl, HN, Nat.le_refl _, Nat.le_trans (Nat.le_of_lt HS.out) HG2.out, HL3, HT2⟩
theorem depth_no (m : M) (w : World) (hh : m.plain.holds = false) : Calls Tryz.prog 17 #[m.val] w fun e w' => e = .returned (.int .i64 m.plain.depth) ∧ Fresh w w' := by
  have HQ : Hid (∀ W, Calls Tryz.prog 41 #[m.val] W fun e w' => e = .returned (.bool false) ∧ Fresh W w') := fun W => by rw [← hh]; exact holds_any m W
  rw [m.plain.depth_not hh]
  clear hh
  obtain ⟨k, f, n, s, la, lc, l, ka, kc, ks⟩ := m
  dsimp only [M.val] at *
  generalize l.length = ln at *
  generalize ks.length = kn at *
  go_enter Tryz.func17, Tryz.ntmps17
  go_wp2_with fail
  refine (HQ.out _).mono ?_
  rintro e w1 ⟨rfl, hf⟩
  go_wp2
  go_ret
  exact ⟨rfl, ((Fresh.refl w).alloc _).trans hf⟩
theorem depth_any (m : M) (w : World) (h : m.At w) (hs : m.plain.size ≤ 1000000) : Calls Tryz.prog 17 #[m.val] w fun e w' => e = .returned (.int .i64 m.plain.depth) ∧ Fresh w w' := by
  cases hh : m.plain.holds with
  | false => exact depth_no m w hh
  | true => exact depth_yes m w h hs hh
theorem ownFault_any (m : M) (w : World) (hT : Tabs w) (hat : m.At w) : Calls Tryz.prog 95 #[m.val] w fun e w' => e = .returned (.int .i64 m.plain.own) ∧ Fresh w w' := by
  obtain ⟨k, f, n, s, la, lc, l, ka, kc, ks⟩ := m
  obtain ⟨hs, _, hk, _, lk, hn, _⟩ := hat.parts
  have hown : (M.mk k f n s la lc l ka kc ks).plain.own = if k < 0 ∨ 5 < k then 15 else if k = 3 then textW s else if k = 5 then keysW (ks.map (·.1)) else 0 := by
    have : ((M.mk k f n s la lc l ka kc ks).plain.keys.map (·.1)) = ks.map (·.1) := plain_names _
    unfold V.own
    rw [this]; rfl
  rw [hown]
  dsimp only [M.val]
  clear hat hown
  by_cases h3 : k = 3
  · subst h3
    rw [if_neg (by omega), if_pos rfl]
    have HQ : Hid (∀ W, Fresh w W → Calls Tryz.prog 122 #[.string s] W fun e w' => e = .returned (.int .i64 (textW s)) ∧ Fresh W w') := fun W hf => textFault_any s W hs (hT.move hf)
    generalize textW s = x at *
    generalize l.length = ln at *
    generalize ks.length = kn at *
    go_enter Tryz.func95, Tryz.ntmps95
    go_wp2_with fail
    refine (HQ.out _ ((Fresh.refl w).alloc _)).mono ?_
    rintro e w1 ⟨rfl, hf⟩
    go_wp2
    go_ret
    exact ⟨rfl, ((Fresh.refl w).alloc _).trans hf⟩
  by_cases h5 : k = 5
  · subst h5
    rw [if_neg (by omega), if_neg (by omega), if_pos rfl]
    have HQ : Hid (∀ W, Fresh w W → Calls Tryz.prog 123 #[.slice ka ks.length kc] W fun e w' => e = .returned (.int .i64 (keysW (ks.map (·.1)))) ∧ Fresh W w') := fun W hf => keysFault_any ks ka kc W (hT.move hf) (hk.move hf) lk hn
    generalize keysW (ks.map (·.1)) = x at *
    clear hk hn lk h3
    generalize l.length = ln at *
    generalize ks.length = kn at *
    go_enter Tryz.func95, Tryz.ntmps95
    go_wp2_with fail
    refine (HQ.out _ ((Fresh.refl w).alloc _)).mono ?_
    rintro e w1 ⟨rfl, hf⟩
    go_wp2
    go_ret
    exact ⟨rfl, ((Fresh.refl w).alloc _).trans hf⟩
  clear hk hn lk hs hT
  generalize l.length = ln at *
  generalize ks.length = kn at *
  by_cases h0 : k = 0
  · subst h0
    rw [if_neg (by omega), if_neg (by omega), if_neg (by omega)]
    clear h3 h5
    go_enter Tryz.func95, Tryz.ntmps95
    go_wp2
    go_ret
    exact ⟨rfl, (Fresh.refl w).alloc _⟩
  by_cases h1 : k = 1
  · subst h1
    rw [if_neg (by omega), if_neg (by omega), if_neg (by omega)]
    clear h3 h5 h0
    go_enter Tryz.func95, Tryz.ntmps95
    go_wp2
    go_ret
    exact ⟨rfl, (Fresh.refl w).alloc _⟩
  by_cases h2 : k = 2
  · subst h2
    rw [if_neg (by omega), if_neg (by omega), if_neg (by omega)]
    clear h3 h5 h0 h1
    go_enter Tryz.func95, Tryz.ntmps95
    go_wp2
    go_ret
    exact ⟨rfl, (Fresh.refl w).alloc _⟩
  by_cases h4 : k = 4
  · subst h4
    rw [if_neg (by omega), if_neg (by omega), if_neg (by omega)]
    clear h3 h5 h0 h1 h2
    go_enter Tryz.func95, Tryz.ntmps95
    go_wp2
    go_ret
    exact ⟨rfl, (Fresh.refl w).alloc _⟩
  · rw [if_pos (by omega)]
    have e0 : (k == 0) = false := by simpa using h0
    have e1 : (k == 1) = false := by simpa using h1
    have e2 : (k == 2) = false := by simpa using h2
    have e3 : (k == 3) = false := by simpa using h3
    have e4 : (k == 4) = false := by simpa using h4
    have e5 : (k == 5) = false := by simpa using h5
    clear h0 h1 h2 h3 h4 h5
    go_enter Tryz.func95, Tryz.ntmps95
    go_wp2
    go_ret
    exact ⟨rfl, (Fresh.refl w).alloc _⟩
theorem fault_step (m : M) (w : World) (hT : Tabs w) (hat : m.At w)
    (ih : ∀ x ∈ m.inside, ∀ W, Fresh w W → Calls Tryz.prog 69 #[x.val] W fun e w' => e = .returned (.int .i64 x.plain.wrong) ∧ Fresh W w') :
    Calls Tryz.prog 69 #[m.val] w fun e w' => e = .returned (.int .i64 m.plain.wrong) ∧ Fresh w w' := by
  have HQ : Hid (∀ W, Fresh w W → Calls Tryz.prog 95 #[m.val] W fun e w' => e = .returned (.int .i64 m.plain.own) ∧ Fresh W w') := fun W hf => ownFault_any m W (hT.move hf) (hat.move hf)
  have HI : Hid (∀ W, Fresh w W → Calls Tryz.prog 39 #[m.val] W (InsideIs m W)) := fun W hf => inside_any m W (hat.move hf)
  have HIH := Lib.hid ih
  have HWR : Hid (m.plain.wrong = if m.plain.own ≠ 0 then m.plain.own else wrongL (m.inside.map M.plain)) := by rw [Hid, wrong_eq, plain_inside]
  have hlen := hat.len
  rw [HWR.out]
  clear ih hat hT HWR
  generalize m.plain.own = ow at *
  unfold InsideIs at HI
  generalize m.inside = ins at *
  obtain ⟨k, f, n, s, la, lc, l, ka, kc, ks⟩ := m
  dsimp only [M.val] at *
  generalize l.length = ln at *
  generalize ks.length = kn at *
  by_cases how : ow = 0
  · subst how
    rw [if_neg (by simp)]
    go_enter Tryz.func69, Tryz.ntmps69
    go_wp2_with fail
    refine (HQ.out _ ((Fresh.refl w).alloc _)).mono ?_
    rintro e w1 ⟨rfl, hf⟩
    have HF1 := Lib.hid (((Fresh.refl w).alloc _).trans hf)
    obtain ⟨b0, b1, b2, b3, b4, b5⟩ := box6' (hf.at (at_new w _))
    clear hf
    go_wp2_with fail
    refine (HI.out _ HF1.out).mono ?_
    rintro e w2 ⟨a, c, rfl, hr, hf2, _⟩
    have HF2 := Lib.hid (HF1.out.trans hf2)
    have HR := Lib.hid hr
    clear hr hf2 b0 b1 b2 b3 b4 b5
    go_wp2
    go_loopw [15] (fun a15 wq => ∃ j : Nat, j ≤ ins.length ∧ a15 = .int .i64 j ∧ Hid (wrongL (ins.map M.plain) = wrongL ((ins.map M.plain).drop j)) ∧ Hid (Fresh w2 wq)) (fun a15 _ => ins.length - (intOf a15).toNat)
    case atStart => exact ⟨0, Nat.zero_le _, rfl, rfl, Fresh.refl _⟩
    case round =>
      obtain ⟨j, hj, rfl, HE, HW⟩ := hrel
      by_cases hlt : j < ins.length
      · obtain ⟨g, eg⟩ := row_some HR.out j hlt
        subst eg
        have hy := mrow_get (HR.out.move HW.out) j hlt
        have hd := wrongL_drop (ins.map M.plain) j (by simpa using hlt)
        rw [List.getElem_map] at hd
        have HX := Lib.hid hd
        have HQ2 : Hid (∀ W, Fresh wr W → Calls Tryz.prog 69 #[ins[j].val] W fun e w' => e = .returned (.int .i64 ins[j].plain.wrong) ∧ Fresh W w') := fun W hf => HIH.out _ (List.getElem_mem _) W ((HF2.out.trans HW.out).trans hf)
        clear hd
        generalize ins[j] = y at *
        generalize y.plain.wrong = x at *
        obtain ⟨yk, yf, yn, ys, yla, ylc, yl, yka, ykc, yks⟩ := y
        obtain ⟨d0, d1, d2, d3, d4, d5⟩ := hy
        dsimp only [M.val] at HQ2
        generalize yl.length = yln at *
        generalize yks.length = ykn at *
        by_cases hx : x = 0
        · subst hx
          have HX2 : Hid (wrongL ((ins.map M.plain).drop j) = wrongL ((ins.map M.plain).drop (j + 1))) := by rw [Hid, HX.out, if_neg (by simp)]
          go_wp2_with fail
          refine (HQ2.out _ ((Fresh.refl wr).alloc _)).mono ?_
          rintro e w3 ⟨rfl, hf⟩
          have HF := Lib.hid ((HW.out.alloc _).trans hf)
          clear hf
          go_wp2
          go_roundw
          case rel => exact ⟨j + 1, by omega, by go_num, by rw [Hid, HE.out, HX2.out], HF.out⟩
          case measure => simp [intOf]; omega
        · have HX2 : Hid (wrongL (ins.map M.plain) = x) := by rw [Hid, HE.out, HX.out, if_pos hx]
          have hxb : (x == 0) = false := by simpa using hx
          go_wp2_with fail
          refine (HQ2.out _ ((Fresh.refl wr).alloc _)).mono ?_
          rintro e w3 ⟨rfl, hf⟩
          have HF := Lib.hid ((HW.out.alloc _).trans hf)
          clear hf
          go_wp2
          go_ret
          exact ⟨ret_int (by rw [HX2.out]), HF2.out.trans HF.out⟩
      · obtain rfl : j = ins.length := by omega
        have HX : Hid (wrongL (ins.map M.plain) = 0) := by rw [Hid, HE.out, List.drop_eq_nil_of_le (by simp)]; rfl
        go_wp2
        go_ret
        exact ⟨ret_int (by rw [HX.out]), HF2.out.trans HW.out⟩
  · rw [if_pos how]
    have hb : (ow == 0) = false := by simpa using how
    go_enter Tryz.func69, Tryz.ntmps69
    go_wp2_with fail
    refine (HQ.out _ ((Fresh.refl w).alloc _)).mono ?_
    rintro e w1 ⟨rfl, hf⟩
    go_wp2
    go_ret
    exact ⟨rfl, ((Fresh.refl w).alloc _).trans hf⟩
theorem fault_all (N : Nat) : ∀ (m : M) (w : World), m.plain.size ≤ N → Tabs w → m.At w → Calls Tryz.prog 69 #[m.val] w fun e w' => e = .returned (.int .i64 m.plain.wrong) ∧ Fresh w w' := by
  induction N with
  | zero => intro m w hN; have := m.plain.size_pos; omega
  | succ N ih =>
    intro m w hN hT hat
    have hsz := size_inside m.plain
    rw [plain_inside] at hsz
    refine fault_step m w hT hat (fun x hx W hf => ?_)
    have := size_mem (List.mem_map_of_mem (f := M.plain) hx)
    exact ih x W (by omega) (hT.move hf) ((hat.inside x hx).move hf)
theorem check_any (m : M) (w : World) (hT : Tabs w) (hat : m.At w) : Calls Tryz.prog 43 #[m.val] w fun e w' => e = .returned (.int .i64 m.plain.check) ∧ Fresh w w' := by
  have HQ : Hid (∀ W, Fresh w W → Calls Tryz.prog 68 #[m.val, .int .i64 32] W fun e w' => e = .returned (.bool (decide (32 < m.plain.depth))) ∧ Fresh W w') := fun W hf => deeper_any 32 m W (by omega) (hat.move hf)
  have HI : Hid (∀ W, Fresh w W → Calls Tryz.prog 69 #[m.val] W fun e w' => e = .returned (.int .i64 m.plain.wrong) ∧ Fresh W w') := fun W hf => fault_all m.plain.size m W (Nat.le_refl _) (hT.move hf) (hat.move hf)
  have HC : Hid (m.plain.check = if 32 < m.plain.depth then 9 else m.plain.wrong) := rfl
  clear hT hat
  rw [HC.out]
  clear HC
  generalize m.plain.wrong = x at *
  by_cases hd : 32 < m.plain.depth
  · rw [if_pos hd]
    rw [decide_eq_true hd] at HQ
    clear hd
    obtain ⟨k, f, n, s, la, lc, l, ka, kc, ks⟩ := m
    dsimp only [M.val] at *
    generalize l.length = ln at *
    generalize ks.length = kn at *
    go_enter Tryz.func43, Tryz.ntmps43
    go_wp2_with fail
    refine (HQ.out _ ((Fresh.refl w).alloc _)).mono ?_
    rintro e w1 ⟨rfl, hf⟩
    go_wp2
    go_ret
    exact ⟨rfl, ((Fresh.refl w).alloc _).trans hf⟩
  · rw [if_neg hd]
    rw [decide_eq_false hd] at HQ
    clear hd
    obtain ⟨k, f, n, s, la, lc, l, ka, kc, ks⟩ := m
    dsimp only [M.val] at *
    generalize l.length = ln at *
    generalize ks.length = kn at *
    go_enter Tryz.func43, Tryz.ntmps43
    go_wp2_with fail
    refine (HQ.out _ ((Fresh.refl w).alloc _)).mono ?_
    rintro e w1 ⟨rfl, hf⟩
    have HF1 := Lib.hid (((Fresh.refl w).alloc _).trans hf)
    obtain ⟨b0, b1, b2, b3, b4, b5⟩ := box6' (hf.at (at_new w _))
    clear hf
    go_wp2_with fail
    refine (HI.out _ HF1.out).mono ?_
    rintro e w2 ⟨rfl, hf2⟩
    go_wp2
    go_ret
    exact ⟨rfl, HF1.out.trans hf2⟩
def M.ofText (s : ByteArray) : M := .mk 3 false 0 s none 0 [] none 0 []
def M.ofInt (n : Int) : M := .mk 2 false n ⟨#[]⟩ none 0 [] none 0 []
def M.ofFlag (b : Bool) : M := .mk 1 b 0 ⟨#[]⟩ none 0 [] none 0 []
theorem of_any (s : ByteArray) (w : World) : Calls Tryz.prog 42 #[.string s] w fun e w' => e = .returned (M.ofText s).val ∧ Fresh w w' := by
  go_enter Tryz.func42, Tryz.ntmps42
  go_wp2
  exact bodyPost_ret (v := (M.ofText s).val) (by simp [results, Tryz.results42, go_sem, M.ofText, M.val]) rfl ⟨rfl, (Fresh.refl w).alloc _⟩
theorem whole_any (n : Int) (w : World) : Calls Tryz.prog 23 #[.int .i64 n] w fun e w' => e = .returned (M.ofInt n).val ∧ Fresh w w' := by
  go_enter Tryz.func23, Tryz.ntmps23
  go_wp2
  exact bodyPost_ret (v := (M.ofInt n).val) (by simp [results, Tryz.results23, go_sem, M.ofInt, M.val]) rfl ⟨rfl, (Fresh.refl w).alloc _⟩
theorem at_flat {k : Int} {f : Bool} {n : Int} {s : ByteArray} (w : World) (hs : s.size ≤ 1000000) : (M.mk k f n s none 0 [] none 0 []).At w :=
  .mk hs (.nil w) (.nil w) (by simp) (by simp) (fun _ h => by cases h) (fun _ h => by cases h) (fun _ h => by cases h)
theorem clone_any (l : List M) (g c : Nat) (w : World) (h : RowAt w (some ⟨g, 0, none⟩) (mcells l)) (hne : 0 < l.length) (hl : l.length ≤ 1000000) :
    Calls Tryz.prog 47 #[.slice (some ⟨g, 0, none⟩) l.length c] w fun e w' => (∃ a c', e = .returned (.slice a l.length c') ∧ RowAt w' a (mcells l) ∧ ∀ ad : Addr, a = some ad → w.heap.size ≤ ad.block) ∧ Fresh w w' := by
  obtain ⟨i0, hi, hz0, hz1, hz2⟩ := info_parts info29
  have hbox : ∀ j x, (mcells l)[j]? = some x → (w.alloc (.cells #[] 27)).cell? ((⟨g, 0, none⟩ : Addr).add j) = some x := fun j x hj => by
    rw [addr_add0]
    rcases h with ⟨e, _⟩ | ⟨g', e, h⟩
    · cases e
    · cases e
      exact ((Fresh.refl w).alloc _).cell (h j x hj)
  have hone : ∀ u ∈ mcells l, u.oneCell' = true := fun u hu => by
    unfold mcells at hu
    rw [List.mem_flatMap] at hu
    obtain ⟨m, _, hu⟩ := hu
    exact cells_one m u hu
  have hown : Hid ((w.alloc (.cells #[] 27)).ownsRow w.heap.size 27 6 (.slice (some ⟨w.heap.size, 0, none⟩) 0 0) 0 []) :=
    ⟨rfl, .inr ⟨w.heap.size, 0, #[], rfl, Nat.le_refl _, at_new w _, Nat.le_refl _, by unfold maxLen; omega, rfl, rfl⟩⟩
  have HB := Lib.hid hbox
  have HO := Lib.hid hone
  have hlen : Hid ((mcells l).length = l.length * 6) := mcells_length l
  have hm1 : 0 + l.length ≤ maxLen := by unfold maxLen; omega
  have hm2 : (0 + l.length) * 88 ≤ 140737488355328 := by omega
  have hnil := fun w => Lib.run_eql_slice_nil (P := Tryz.prog) w 24 27 (some ⟨g, 0, none⟩) l.length c 0 0 Tryz.underlying24
  clear h hbox hone
  go_enter Tryz.func47, Tryz.ntmps47
  go_wp2_with (first
    | (at_builtin; refine wpList_append_lies _ rfl _ _ 24 rfl w.heap.size 27 i0 _ 6 88 Tryz.underlying24 hi hz0 hz1 hz2 rfl (by decide) (.slice (some ⟨w.heap.size, 0, none⟩) 0 0) 0 [] rfl hown.out ⟨g, 0, none⟩ l.length c (mcells l) rfl hlen.out HB.out HO.out hne hm1 hm2 (by rw [World.size_alloc]; omega) _ rfl ?_; intro g' cap' w5 hown5 hgrow5 hat5 hlt5; have HW := Lib.hid hown5; have HG := Lib.hid hgrow5; clear hown5 hgrow5 hat5 hlt5)
    | go_in)
  go_ret
  exact ⟨⟨some ⟨g', 0, none⟩, cap', rfl, RowAt.owns HW.out, fun ad h => by cases h; exact (HW.out.lt g' rfl).1⟩, ((Fresh.refl w).alloc _).grown HG.out (fun k e => by cases e; exact Nat.le_refl _)⟩
theorem grown_setCells (g : Nat) : ∀ (vs : List Value) (o : Nat) (w : World), w.grownBy (w.setCells g o vs) (some g)
  | [], _, _ => ⟨rfl, rfl, rfl, Nat.le_refl _, fun _ _ _ => rfl⟩
  | v :: vs, o, w => by
    have h1 := grown_set w g o v
    have h2 := grown_setCells g vs (o + 1) (w.setCell ⟨g, o, none⟩ v)
    exact ⟨h2.os.trans h1.os, h2.tape.trans h1.tape, h2.output.trans h1.output, Nat.le_trans h1.size h2.size, fun k hk hne => (h2.block k (Nat.lt_of_lt_of_le hk h1.size) hne).trans (h1.block k hk hne)⟩
theorem row_any (l : List M) (g c : Nat) (w : World) (h : RowAt w (some ⟨g, 0, none⟩) (mcells l)) (hne : 0 < l.length) (hl : l.length ≤ 1000000) :
    Calls Tryz.prog 22 #[.slice (some ⟨g, 0, none⟩) l.length c] w fun e w' => (∃ a c', e = .returned (M.mk 4 false 0 ⟨#[]⟩ a c' l none 0 []).val ∧ RowAt w' a (mcells l)) ∧ Fresh w w' := by
  have HQ := Lib.hid (clone_any l g c (w.alloc (.cells #[.int .i64 0, .bool false, .int .i64 0, .string ⟨#[]⟩, .slice none 0 0, .slice none 0 0] 27)) (h.move ((Fresh.refl w).alloc _)) hne hl)
  clear h hne hl
  dsimp only [M.val, List.length_nil]
  generalize l.length = ln at *
  go_enter Tryz.func22, Tryz.ntmps22
  go_wp2_with fail
  refine HQ.out.mono ?_
  rintro e w1 ⟨⟨a, c', rfl, hr, hsep⟩, hf⟩
  have hb := hf.at (at_new w _)
  have hF := Lib.hid (((Fresh.refl w).alloc _).trans hf)
  have HR := Lib.hid hr
  have HB := Lib.hid hb
  obtain ⟨b0, b1, b2, b3, b4, b5⟩ := box6' hb
  have hz : w.heap.size < w1.heap.size := World.block_lt_of_cell? w1 _ b0
  have z0 : w1.frozen? ⟨w.heap.size, 0, none⟩ = false := by simp [World.frozen?, hb]
  have z1 : w1.frozen? ⟨w.heap.size, 1, none⟩ = false := by simp [World.frozen?, hb]
  have z2 : w1.frozen? ⟨w.heap.size, 2, none⟩ = false := by simp [World.frozen?, hb]
  have z3 : w1.frozen? ⟨w.heap.size, 3, none⟩ = false := by simp [World.frozen?, hb]
  have z4 : w1.frozen? ⟨w.heap.size, 4, none⟩ = false := by simp [World.frozen?, hb]
  have z5 : w1.frozen? ⟨w.heap.size, 5, none⟩ = false := by simp [World.frozen?, hb]
  have HSEP := Lib.hid hsep
  clear hf hr hb hsep
  go_wp2
  refine bodyPost_ret (v := mval 4 false 0 ⟨#[]⟩ a ln c' none 0 0) (by simp [results, Tryz.results22, go_sem, *]) rfl ⟨⟨a, c', rfl, ?_⟩, ?_⟩
  · refine HR.out.grown (grown_setCells w.heap.size [.int .i64 4, .bool false, .int .i64 0, .string ⟨#[]⟩, .slice a ln c', .slice none 0 0] 0 w1) (fun ad e h => ?_)
    have := HSEP.out ad e
    rw [World.size_alloc] at this
    injection h with h
    omega
  · exact Fresh.setCells (Nat.le_refl _) [.int .i64 4, .bool false, .int .i64 0, .string ⟨#[]⟩, .slice a ln c', .slice none 0 0] 0 hF.out
theorem clone_nil (w : World) : Calls Tryz.prog 46 #[.slice none 0 0] w fun e w' => e = .returned (.slice none 0 0) ∧ w = w' := by
  have hnil := fun w => Lib.run_eql_slice_nil (P := Tryz.prog) w 25 54 none 0 0 0 0 Tryz.underlying25
  go_enter Tryz.func46, Tryz.ntmps46
  go_wp2
  go_ret
  exact ⟨rfl, rfl⟩
theorem map_nil (w : World) : Calls Tryz.prog 21 #[.slice none 0 0] w fun e w' => e = .returned (M.mk 5 false 0 ⟨#[]⟩ none 0 [] none 0 []).val ∧ Fresh w w' := by
  go_enter Tryz.func21, Tryz.ntmps21
  go_wp2_with fail
  refine (clone_nil _).mono ?_
  rintro e w1 ⟨rfl, rfl⟩
  go_wp2
  exact bodyPost_ret (v := (M.mk 5 false 0 ⟨#[]⟩ none 0 [] none 0 []).val) (by simp [results, Tryz.results21, go_sem, M.val]) rfl ⟨rfl, (Fresh.refl w).alloc _⟩
theorem awake_any (w : World) (hT : Tabs w) : Calls Tryz.prog 18 #[] w fun e w' => e = .returned (.bool true) ∧ Fresh w w' := by
  have HW1 := Lib.hid (fun W => whole_any 1 W)
  have HW2 := Lib.hid (fun W => map_nil W)
  have HW3 : Hid (∀ (W : World) (b : Nat), W.heap[b]? = some (.cells #[.int .i64 2, .bool false, .int .i64 1, .string ⟨#[]⟩, .slice none 0 0, .slice none 0 0, .int .i64 5, .bool false, .int .i64 0, .string ⟨#[]⟩, .slice none 0 0, .slice none 0 0] 27) → Calls Tryz.prog 22 #[.slice (some ⟨b, 0, none⟩) 2 2] W fun e w' => (∃ a c', e = .returned (M.mk 4 false 0 ⟨#[]⟩ a c' [M.ofInt 1, .mk 5 false 0 ⟨#[]⟩ none 0 [] none 0 []] none 0 []).val ∧ RowAt w' a (mcells [M.ofInt 1, .mk 5 false 0 ⟨#[]⟩ none 0 [] none 0 []])) ∧ Fresh W w') := fun W b hb =>
    row_any [M.ofInt 1, .mk 5 false 0 ⟨#[]⟩ none 0 [] none 0 []] b 2 W (.inr ⟨b, rfl, fun j x hj => cell_of_at hb (by simpa [mcells, M.cells, M.ofInt] using hj)⟩) (by decide) (by decide)
  have HW4 : Hid (∀ (W : World) (a : Option Addr) (c : Nat), RowAt W a (mcells [M.ofInt 1, .mk 5 false 0 ⟨#[]⟩ none 0 [] none 0 []]) → Calls Tryz.prog 17 #[(M.mk 4 false 0 ⟨#[]⟩ a c [M.ofInt 1, .mk 5 false 0 ⟨#[]⟩ none 0 [] none 0 []] none 0 []).val] W fun e w' => e = .returned (.int .i64 2) ∧ Fresh W w') := fun W a c hr => by
    have := depth_any (M.mk 4 false 0 ⟨#[]⟩ a c [M.ofInt 1, .mk 5 false 0 ⟨#[]⟩ none 0 [] none 0 []] none 0 []) W
      (.mk (by decide) hr (.nil W) (by simp) (by simp) (fun _ h => by cases h) (fun m hm => by
        rcases List.mem_cons.1 hm with rfl | hm
        · exact at_flat W (by decide)
        · rw [List.mem_singleton] at hm; subst hm; exact at_flat W (by decide)) (fun _ h => by cases h)) (by simp [M.plain, plainL, plainK, M.ofInt, V.size, sizeL, sizeK])
    have e : (M.mk 4 false 0 ⟨#[]⟩ a c [M.ofInt 1, .mk 5 false 0 ⟨#[]⟩ none 0 [] none 0 []] none 0 []).plain.depth = 2 := by simp [M.plain, plainL, plainK, M.ofInt, V.depth, depthL, depthK]
    rw [e] at this
    exact this
  have HW5 := Lib.hid (fun W => of_any ⟨#[120]⟩ W)
  have HW6 : Hid (∀ W, Tabs W → Calls Tryz.prog 43 #[(M.ofText ⟨#[120]⟩).val] W fun e w' => e = .returned (.int .i64 0) ∧ Fresh W w') := fun W hT => by
    have := check_any (M.ofText ⟨#[120]⟩) W hT (at_flat W (by decide))
    have e : (M.ofText ⟨#[120]⟩).plain.check = 0 := by
      have h1 : (M.ofText ⟨#[120]⟩).plain.depth = 0 := by simp [M.ofText, M.plain, V.depth]
      have h2 : (M.ofText ⟨#[120]⟩).plain.own = 0 := by
        have : textW ⟨#[120]⟩ = 0 := by
          unfold textW
          rw [if_pos (by decide), if_neg (by decide)]
        simp [M.ofText, M.plain, V.own, V.kind, V.text, this]
      rw [V.check, h1, if_neg (by omega), wrong_eq, h2, if_neg (by simp)]
      simp [M.ofText, M.plain, V.inside, V.kind, wrongL]
    rw [e] at this
    exact this
  have HT := Lib.hid hT
  clear hT
  dsimp only [M.val, M.ofInt, M.ofText, List.length_nil, List.length_cons] at HW1 HW2 HW3 HW4 HW5 HW6
  go_enter Tryz.func18, Tryz.ntmps18
  go_wp2_with fail
  refine (HW1.out _).mono ?_
  rintro e w1 ⟨rfl, hf1⟩
  have HF1 := Lib.hid hf1
  clear hf1
  go_wp2_with fail
  refine (HW2.out _).mono ?_
  rintro e w2 ⟨rfl, hf2⟩
  have HF2 := Lib.hid (HF1.out.trans hf2)
  clear hf2
  go_wp2_with fail
  refine (HW3.out _ _ (at_new w2 _)).mono ?_
  rintro e w3 ⟨⟨a, c, rfl, hr⟩, hf3⟩
  have HF3 := Lib.hid ((HF2.out.alloc _).trans hf3)
  have HR := Lib.hid hr
  clear hf3 hr
  go_wp2_with fail
  refine (HW4.out _ a c HR.out).mono ?_
  rintro e w4 ⟨rfl, hf4⟩
  have HF4 := Lib.hid (HF3.out.trans hf4)
  clear hf4
  go_wp2_with fail
  refine (HW5.out _).mono ?_
  rintro e w5 ⟨rfl, hf5⟩
  have HF5 := Lib.hid (HF4.out.trans hf5)
  clear hf5
  go_wp2_with fail
  refine (HW6.out _ (HT.out.move HF5.out)).mono ?_
  rintro e w6 ⟨rfl, hf6⟩
  go_wp2
  go_ret
  exact ⟨rfl, HF5.out.trans hf6⟩
end v
namespace v
open Go.ChangeShapes Go.WideShapes Go.ChangeAt Go.RowKit
theorem pclone_any (l : List (ByteArray × M)) (g c : Nat) (w : World) (h : RowAt w (some ⟨g, 0, none⟩) (pcells l)) (hne : 0 < l.length) (hl : l.length ≤ 1000000) :
    Calls Tryz.prog 46 #[.slice (some ⟨g, 0, none⟩) l.length c] w fun e w' => (∃ a c', e = .returned (.slice a l.length c') ∧ RowAt w' a (pcells l) ∧ ∀ ad : Addr, a = some ad → w.heap.size ≤ ad.block) ∧ Fresh w w' := by
  obtain ⟨i0, z0, hi, hz0, hzc, hz1, hz2⟩ := info_seven info54
  have hbox : ∀ j x, (pcells l)[j]? = some x → (w.alloc (.cells #[] 54)).cell? ((⟨g, 0, none⟩ : Addr).add j) = some x := fun j x hj => by
    rw [addr_add0]
    rcases h with ⟨e, _⟩ | ⟨g', e, h⟩
    · cases e
    · cases e
      exact ((Fresh.refl w).alloc _).cell (h j x hj)
  have hone : ∀ u ∈ pcells l, u.oneCell' = true := fun u hu => by
    unfold pcells at hu
    rw [List.mem_flatMap] at hu
    obtain ⟨m, _, hu⟩ := hu
    rcases List.mem_cons.1 hu with rfl | hu
    · rfl
    · exact cells_one m.2 u hu
  have hown : Hid ((w.alloc (.cells #[] 54)).ownsRow w.heap.size 54 7 (.slice (some ⟨w.heap.size, 0, none⟩) 0 0) 0 []) :=
    ⟨rfl, .inr ⟨w.heap.size, 0, #[], rfl, Nat.le_refl _, at_new w _, Nat.le_refl _, by unfold maxLen; omega, rfl, rfl⟩⟩
  have HB := Lib.hid hbox
  have HO := Lib.hid hone
  have hlen : Hid ((pcells l).length = l.length * 7) := pcells_length l
  have hm1 : 0 + l.length ≤ maxLen := by unfold maxLen; omega
  have hm2 : (0 + l.length) * 104 ≤ 140737488355328 := by omega
  have hnil := fun w => Lib.run_eql_slice_nil (P := Tryz.prog) w 25 54 (some ⟨g, 0, none⟩) l.length c 0 0 Tryz.underlying25
  clear h hbox hone
  go_enter Tryz.func46, Tryz.ntmps46
  go_wp2_with (first
    | (at_builtin; refine wpList_append_lies _ rfl _ _ 25 rfl w.heap.size 54 i0 _ 7 104 Tryz.underlying25 hi hz0 hz1 hz2 hzc (by decide) (.slice (some ⟨w.heap.size, 0, none⟩) 0 0) 0 [] rfl hown.out ⟨g, 0, none⟩ l.length c (pcells l) rfl hlen.out HB.out HO.out hne hm1 hm2 (by rw [World.size_alloc]; omega) _ rfl ?_; intro g' cap' w5 hown5 hgrow5 hat5 hlt5; have HW := Lib.hid hown5; have HG := Lib.hid hgrow5; clear hown5 hgrow5 hat5 hlt5)
    | go_in)
  go_ret
  exact ⟨⟨some ⟨g', 0, none⟩, cap', rfl, RowAt.owns HW.out, fun ad h => by cases h; exact (HW.out.lt g' rfl).1⟩, ((Fresh.refl w).alloc _).grown HG.out (fun k e => by cases e; exact Nat.le_refl _)⟩
theorem map_any (l : List (ByteArray × M)) (g c : Nat) (w : World) (h : RowAt w (some ⟨g, 0, none⟩) (pcells l)) (hne : 0 < l.length) (hl : l.length ≤ 1000000) :
    Calls Tryz.prog 21 #[.slice (some ⟨g, 0, none⟩) l.length c] w fun e w' => (∃ a c', e = .returned (M.mk 5 false 0 ⟨#[]⟩ none 0 [] a c' l).val ∧ RowAt w' a (pcells l)) ∧ Fresh w w' := by
  have HQ := Lib.hid (pclone_any l g c (w.alloc (.cells #[.int .i64 0, .bool false, .int .i64 0, .string ⟨#[]⟩, .slice none 0 0, .slice none 0 0] 27)) (h.move ((Fresh.refl w).alloc _)) hne hl)
  clear h hne hl
  dsimp only [M.val, List.length_nil]
  generalize l.length = ln at *
  go_enter Tryz.func21, Tryz.ntmps21
  go_wp2_with fail
  refine HQ.out.mono ?_
  rintro e w1 ⟨⟨a, c', rfl, hr, hsep⟩, hf⟩
  have hb := hf.at (at_new w _)
  have hF := Lib.hid (((Fresh.refl w).alloc _).trans hf)
  have HR := Lib.hid hr
  have HB := Lib.hid hb
  obtain ⟨b0, b1, b2, b3, b4, b5⟩ := box6' hb
  have hz : w.heap.size < w1.heap.size := World.block_lt_of_cell? w1 _ b0
  have z0 : w1.frozen? ⟨w.heap.size, 0, none⟩ = false := by simp [World.frozen?, hb]
  have z1 : w1.frozen? ⟨w.heap.size, 1, none⟩ = false := by simp [World.frozen?, hb]
  have z2 : w1.frozen? ⟨w.heap.size, 2, none⟩ = false := by simp [World.frozen?, hb]
  have z3 : w1.frozen? ⟨w.heap.size, 3, none⟩ = false := by simp [World.frozen?, hb]
  have z4 : w1.frozen? ⟨w.heap.size, 4, none⟩ = false := by simp [World.frozen?, hb]
  have z5 : w1.frozen? ⟨w.heap.size, 5, none⟩ = false := by simp [World.frozen?, hb]
  have HSEP := Lib.hid hsep
  clear hf hr hb hsep
  go_wp2
  refine bodyPost_ret (v := mval 5 false 0 ⟨#[]⟩ none 0 0 a ln c') (by simp [results, Tryz.results21, go_sem, *]) rfl ⟨⟨a, c', rfl, ?_⟩, ?_⟩
  · refine HR.out.grown (grown_setCells w.heap.size [.int .i64 5, .bool false, .int .i64 0, .string ⟨#[]⟩, .slice none 0 0, .slice a ln c'] 0 w1) (fun ad e h => ?_)
    have := HSEP.out ad e
    rw [World.size_alloc] at this
    injection h with h
    omega
  · exact Fresh.setCells (Nat.le_refl _) [.int .i64 5, .bool false, .int .i64 0, .string ⟨#[]⟩, .slice none 0 0, .slice a ln c'] 0 hF.out
end v
namespace v
open Go.ChangeShapes Go.WideShapes Go.ChangeAt Go.RowKit
attribute [local go_sem ↓] Go.wp_at_zero Go.wp_at_succ
variable {w : World}
theorem row_own (l : List M) (g c : Nat) (w : World) (h : RowAt w (some ⟨g, 0, none⟩) (mcells l)) (hne : 0 < l.length) (hl : l.length ≤ 1000000) :
    Calls Tryz.prog 22 #[.slice (some ⟨g, 0, none⟩) l.length c] w fun e w' => (∃ a c', e = .returned (M.mk 4 false 0 ⟨#[]⟩ a c' l none 0 []).val ∧ RowAt w' a (mcells l) ∧ ∀ ad : Addr, a = some ad → w.heap.size ≤ ad.block) ∧ Fresh w w' := by
  have HQ := Lib.hid (clone_any l g c (w.alloc (.cells #[.int .i64 0, .bool false, .int .i64 0, .string ⟨#[]⟩, .slice none 0 0, .slice none 0 0] 27)) (h.move ((Fresh.refl w).alloc _)) hne hl)
  clear h hne hl
  dsimp only [M.val, List.length_nil]
  generalize l.length = ln at *
  go_enter Tryz.func22, Tryz.ntmps22
  go_wp2_with fail
  refine HQ.out.mono ?_
  rintro e w1 ⟨⟨a, c', rfl, hr, hsep⟩, hf⟩
  have hb := hf.at (at_new w _)
  have hF := Lib.hid (((Fresh.refl w).alloc _).trans hf)
  have HR := Lib.hid hr
  have HB := Lib.hid hb
  obtain ⟨b0, b1, b2, b3, b4, b5⟩ := box6' hb
  have hz : w.heap.size < w1.heap.size := World.block_lt_of_cell? w1 _ b0
  have z0 : w1.frozen? ⟨w.heap.size, 0, none⟩ = false := by simp [World.frozen?, hb]
  have z1 : w1.frozen? ⟨w.heap.size, 1, none⟩ = false := by simp [World.frozen?, hb]
  have z2 : w1.frozen? ⟨w.heap.size, 2, none⟩ = false := by simp [World.frozen?, hb]
  have z3 : w1.frozen? ⟨w.heap.size, 3, none⟩ = false := by simp [World.frozen?, hb]
  have z4 : w1.frozen? ⟨w.heap.size, 4, none⟩ = false := by simp [World.frozen?, hb]
  have z5 : w1.frozen? ⟨w.heap.size, 5, none⟩ = false := by simp [World.frozen?, hb]
  have HSEP := Lib.hid hsep
  clear hf hr hb hsep
  go_wp2
  refine bodyPost_ret (v := mval 4 false 0 ⟨#[]⟩ a ln c' none 0 0) (by simp [results, Tryz.results22, go_sem, *]) rfl ⟨⟨a, c', rfl, ?_, fun ad e => by have := HSEP.out ad e; rw [World.size_alloc] at this; omega⟩, ?_⟩
  · refine HR.out.grown (grown_setCells w.heap.size [.int .i64 4, .bool false, .int .i64 0, .string ⟨#[]⟩, .slice a ln c', .slice none 0 0] 0 w1) (fun ad e h => ?_)
    have := HSEP.out ad e
    rw [World.size_alloc] at this
    injection h with h
    omega
  · exact Fresh.setCells (Nat.le_refl _) [.int .i64 4, .bool false, .int .i64 0, .string ⟨#[]⟩, .slice a ln c', .slice none 0 0] 0 hF.out
theorem map_own (l : List (ByteArray × M)) (g c : Nat) (w : World) (h : RowAt w (some ⟨g, 0, none⟩) (pcells l)) (hne : 0 < l.length) (hl : l.length ≤ 1000000) :
    Calls Tryz.prog 21 #[.slice (some ⟨g, 0, none⟩) l.length c] w fun e w' => (∃ a c', e = .returned (M.mk 5 false 0 ⟨#[]⟩ none 0 [] a c' l).val ∧ RowAt w' a (pcells l) ∧ ∀ ad : Addr, a = some ad → w.heap.size ≤ ad.block) ∧ Fresh w w' := by
  have HQ := Lib.hid (pclone_any l g c (w.alloc (.cells #[.int .i64 0, .bool false, .int .i64 0, .string ⟨#[]⟩, .slice none 0 0, .slice none 0 0] 27)) (h.move ((Fresh.refl w).alloc _)) hne hl)
  clear h hne hl
  dsimp only [M.val, List.length_nil]
  generalize l.length = ln at *
  go_enter Tryz.func21, Tryz.ntmps21
  go_wp2_with fail
  refine HQ.out.mono ?_
  rintro e w1 ⟨⟨a, c', rfl, hr, hsep⟩, hf⟩
  have hb := hf.at (at_new w _)
  have hF := Lib.hid (((Fresh.refl w).alloc _).trans hf)
  have HR := Lib.hid hr
  have HB := Lib.hid hb
  obtain ⟨b0, b1, b2, b3, b4, b5⟩ := box6' hb
  have hz : w.heap.size < w1.heap.size := World.block_lt_of_cell? w1 _ b0
  have z0 : w1.frozen? ⟨w.heap.size, 0, none⟩ = false := by simp [World.frozen?, hb]
  have z1 : w1.frozen? ⟨w.heap.size, 1, none⟩ = false := by simp [World.frozen?, hb]
  have z2 : w1.frozen? ⟨w.heap.size, 2, none⟩ = false := by simp [World.frozen?, hb]
  have z3 : w1.frozen? ⟨w.heap.size, 3, none⟩ = false := by simp [World.frozen?, hb]
  have z4 : w1.frozen? ⟨w.heap.size, 4, none⟩ = false := by simp [World.frozen?, hb]
  have z5 : w1.frozen? ⟨w.heap.size, 5, none⟩ = false := by simp [World.frozen?, hb]
  have HSEP := Lib.hid hsep
  clear hf hr hb hsep
  go_wp2
  refine bodyPost_ret (v := mval 5 false 0 ⟨#[]⟩ none 0 0 a ln c') (by simp [results, Tryz.results21, go_sem, *]) rfl ⟨⟨a, c', rfl, ?_, fun ad e => by have := HSEP.out ad e; rw [World.size_alloc] at this; omega⟩, ?_⟩
  · refine HR.out.grown (grown_setCells w.heap.size [.int .i64 5, .bool false, .int .i64 0, .string ⟨#[]⟩, .slice none 0 0, .slice a ln c'] 0 w1) (fun ad e h => ?_)
    have := HSEP.out ad e
    rw [World.size_alloc] at this
    injection h with h
    omega
  · exact Fresh.setCells (Nat.le_refl _) [.int .i64 5, .bool false, .int .i64 0, .string ⟨#[]⟩, .slice none 0 0, .slice a ln c'] 0 hF.out
theorem vclone_nil (w : World) : Calls Tryz.prog 47 #[.slice none 0 0] w fun e w' => e = .returned (.slice none 0 0) ∧ w = w' := by
  have hnil := fun w => Lib.run_eql_slice_nil (P := Tryz.prog) w 24 27 none 0 0 0 0 Tryz.underlying24
  go_enter Tryz.func47, Tryz.ntmps47
  go_wp2
  go_ret
  exact ⟨rfl, rfl⟩
theorem row_nil (w : World) : Calls Tryz.prog 22 #[.slice none 0 0] w fun e w' => e = .returned (M.mk 4 false 0 ⟨#[]⟩ none 0 [] none 0 []).val ∧ Fresh w w' := by
  go_enter Tryz.func22, Tryz.ntmps22
  go_wp2_with fail
  refine (vclone_nil _).mono ?_
  rintro e w1 ⟨rfl, rfl⟩
  go_wp2
  exact bodyPost_ret (v := (M.mk 4 false 0 ⟨#[]⟩ none 0 [] none 0 []).val) (by simp [results, Tryz.results22, go_sem, M.val]) rfl ⟨rfl, (Fresh.refl w).alloc _⟩
end v
end Go.Proofs.YtcljplkkgpjhlaaGreatDoorR

/-
  Parts of the proof: YReads.
-/
import Derived.Test.YtcljplkkgpjhlaaGreatDoorRCat32
import Derived.Test.YtcljplkkgpjhlaaGreatDoorRCat34
import Derived.Test.YtcljplkkgpjhlaaGreatDoorRCat16
set_option maxRecDepth 100000
set_option maxHeartbeats 8000000
namespace Go.Proofs.YtcljplkkgpjhlaaGreatDoorR
namespace y
open Go.ChangeShapes Go.WideShapes Go.ChangeAt Go.RowKit
attribute [local go_sem ↓] Go.wp_at_zero Go.wp_at_succ
variable {w : World}
theorem cutL_rows (V : List UInt8 → Bool) (l : List UInt8) (h : l.length ≤ 90000) : (cutL V l).1.length ≤ l.length := by
  have hl := lnsA_len [] l
  obtain ⟨h1, h2, h3⟩ := cutA_ok V 90001 90000 (lnsA [] l) 0 [] (fun x hx => by have := lnsA_mem l [] x hx; simp at this; omega) (by omega) (fun r h => by cases h)
  have hs := lnsA_sum l []
  simp only [List.length_nil] at h2 hs
  unfold cutL; omega
theorem parseM_check (l : List UInt8) (h : l.length ≤ 90000) (hc : (parseM l).2.2 = 0) : (parseM l).1.check = 0 ∧ (parseM l).1.size ≤ 1000000 := by
  have hrows := cutL_rows Lib.validD l h
  unfold parseM at hc ⊢
  by_cases h1 : (cutL Lib.validD l).2.2 ≠ 0
  · rw [if_pos h1] at hc; exact absurd hc h1
  rw [if_neg h1] at hc ⊢
  generalize (cutL Lib.validD l).1 = R at *
  rw [parseR_doc] at hc ⊢
  cases hd : docM R with
  | error e => exact ⟨rfl, by show 1 ≤ 1000000; omega⟩
  | ok y =>
    have hb : blk R 0 = .ok y := by
      unfold docM at hd
      split at hd
      · cases hd
      · exact hd
    have := blk_check hb
    exact ⟨this.1, by have := this.2; show y.size ≤ 1000000; omega⟩
theorem reads_long (s : ByteArray) (w : World) (h : 3000 < s.size) (hE : Env w) : Calls Tryz.prog 3 #[.string s] w fun e w' => e = .returned (.bool true) ∧ Fresh w w' := by
  have HA : Hid (∀ W, Fresh w W → Calls Tryz.prog 6 #[] W fun e w' => e = .returned (.bool true) ∧ Fresh W w') := fun W f => awake_any W (hE.move f)
  have g1 : (3000 : Int) < (s.size : Int) := by omega
  clear hE h
  go_enter Tryz.func3, Tryz.ntmps3
  go_wp2_with fail
  refine (HA.out _ (Fresh.refl w)).mono ?_
  rintro e w1 ⟨rfl, hf⟩
  have HF := Lib.hid hf
  clear hf
  go_wp2
  go_ret
  exact ⟨rfl, HF.out⟩
theorem reads_short (l : List UInt8) (w : World) (hl : l.length ≤ 3000) (hE : Env w) : Calls Tryz.prog 3 #[.string (tx l)] w fun e w' => e = .returned (.bool true) ∧ Fresh w w' := by
  have HA : Hid (∀ W, Fresh w W → Calls Tryz.prog 6 #[] W fun e w' => e = .returned (.bool true) ∧ Fresh W w') := fun W f => awake_any W (hE.move f)
  have hP := parse_any l w (by omega) hE
  have hR := fun W => rparse_any l W (by omega)
  have hC := parseM_check l (by omega)
  have g1 : ¬ (3000 : Int) < ((tx l).size : Int) := by rw [tx_size]; omega
  clear hE hl
  generalize parseM l = X at *
  obtain ⟨x, n, cc⟩ := X
  dsimp only at hC
  have HP : Hid (Calls Tryz.prog 7 #[.string (tx l)] w fun e w' => (∃ m : v.M, e = .returned (.tuple #[m.val, .agg #[.int .i64 (n : Int), .int .i64 cc]]) ∧ m.plain = x ∧ m.New w.heap.size w') ∧ Fresh w w') := hP
  have HR : Hid (∀ W : World, Calls Tryz.prog 8 #[.string (tx l)] W fun e w' => (∃ m : v.M, e = .returned (.tuple #[m.val, .int .i64 (n : Int), .int .i64 cc]) ∧ m.plain = x ∧ m.New W.heap.size w') ∧ Fresh W w') := hR
  have HC := Lib.hid hC
  clear hP hR hC
  generalize tx l = s at *
  go_enter Tryz.func3, Tryz.ntmps3
  go_wp2_with fail
  refine HP.out.mono ?_
  rintro e w1 ⟨⟨m, rfl, hp, hn⟩, hf⟩
  obtain ⟨mk, mf, mn, ms, mla, mlc, ml, mka, mkc, mks⟩ := m
  have HPL := Lib.hid hp
  have HF2 : Hid (Fresh w ((w1.alloc (.cells #[.int .i64 mk, .bool mf, .int .i64 mn, .string ms, .slice mla ml.length mlc, .slice mka mks.length mkc] 27 (0, 0))).alloc (.cells #[.int .i64 (n : Int), .int .i64 cc] 30 (0, 0)))) := (hf.alloc _).alloc _
  have HNW : Hid ((v.M.mk mk mf mn ms mla mlc ml mka mkc mks).At ((w1.alloc (.cells #[.int .i64 mk, .bool mf, .int .i64 mn, .string ms, .slice mla ml.length mlc, .slice mka mks.length mkc] 27 (0, 0))).alloc (.cells #[.int .i64 (n : Int), .int .i64 cc] 30 (0, 0)))) := ((hn.move ((Fresh.refl w1).alloc (.cells #[.int .i64 mk, .bool mf, .int .i64 mn, .string ms, .slice mla ml.length mlc, .slice mka mks.length mkc] 27 (0, 0)))).move ((Fresh.refl _).alloc (.cells #[.int .i64 (n : Int), .int .i64 cc] 30 (0, 0)))).at
  have HVB : Hid (((w1.alloc (.cells #[.int .i64 mk, .bool mf, .int .i64 mn, .string ms, .slice mla ml.length mlc, .slice mka mks.length mkc] 27 (0, 0))).alloc (.cells #[.int .i64 (n : Int), .int .i64 cc] 30 (0, 0))).heap[w1.heap.size]? = some (.cells #[.int .i64 mk, .bool mf, .int .i64 mn, .string ms, .slice mla ml.length mlc, .slice mka mks.length mkc] 27 (0, 0))) := v.at_alloc (v.at_new w1 _)
  have HMB : Hid (((w1.alloc (.cells #[.int .i64 mk, .bool mf, .int .i64 mn, .string ms, .slice mla ml.length mlc, .slice mka mks.length mkc] 27 (0, 0))).alloc (.cells #[.int .i64 (n : Int), .int .i64 cc] 30 (0, 0))).heap[w1.heap.size + 1]? = some (.cells #[.int .i64 (n : Int), .int .i64 cc] 30 (0, 0))) := by
    have := v.at_new (w1.alloc (.cells #[.int .i64 mk, .bool mf, .int .i64 mn, .string ms, .slice mla ml.length mlc, .slice mka mks.length mkc] 27 (0, 0))) (.cells #[.int .i64 (n : Int), .int .i64 cc] 30 (0, 0))
    rw [World.size_alloc] at this
    exact this
  clear hp hn hf HP
  dsimp only [v.M.val]
  go_wp2_with fail
  generalize (w1.alloc (.cells #[.int .i64 mk, .bool mf, .int .i64 mn, .string ms, .slice mla ml.length mlc, .slice mka mks.length mkc] 27 (0, 0))).alloc (.cells #[.int .i64 (n : Int), .int .i64 cc] 30 (0, 0)) = w2 at *
  generalize w1.heap.size = g at *
  refine (HR.out w2).mono ?_
  rintro e w3 ⟨⟨m2, rfl, hp, hn⟩, hf⟩
  obtain ⟨rk, rf, rn, rs, rla, rlc, rl, rka, rkc, rks⟩ := m2
  have HPR := Lib.hid hp
  have HF4 : Hid (Fresh w (w3.alloc (.cells #[.int .i64 rk, .bool rf, .int .i64 rn, .string rs, .slice rla rl.length rlc, .slice rka rks.length rkc] 36 (0, 0)))) := (HF2.out.trans hf).alloc _
  have HN4 : Hid ((v.M.mk mk mf mn ms mla mlc ml mka mkc mks).At (w3.alloc (.cells #[.int .i64 rk, .bool rf, .int .i64 rn, .string rs, .slice rla rl.length rlc, .slice rka rks.length rkc] 36 (0, 0)))) := HNW.out.move (hf.alloc _)
  have HR4 : Hid ((v.M.mk rk rf rn rs rla rlc rl rka rkc rks).At (w3.alloc (.cells #[.int .i64 rk, .bool rf, .int .i64 rn, .string rs, .slice rla rl.length rlc, .slice rka rks.length rkc] 36 (0, 0)))) := (hn.move ((Fresh.refl w3).alloc (.cells #[.int .i64 rk, .bool rf, .int .i64 rn, .string rs, .slice rla rl.length rlc, .slice rka rks.length rkc] 36 (0, 0)))).at
  have HVB4 : Hid ((w3.alloc (.cells #[.int .i64 rk, .bool rf, .int .i64 rn, .string rs, .slice rla rl.length rlc, .slice rka rks.length rkc] 36 (0, 0))).heap[g]? = some (.cells #[.int .i64 mk, .bool mf, .int .i64 mn, .string ms, .slice mla ml.length mlc, .slice mka mks.length mkc] 27 (0, 0))) := v.at_alloc (v.Fresh.at hf HVB.out)
  have HMB4 : Hid ((w3.alloc (.cells #[.int .i64 rk, .bool rf, .int .i64 rn, .string rs, .slice rla rl.length rlc, .slice rka rks.length rkc] 36 (0, 0))).heap[g + 1]? = some (.cells #[.int .i64 (n : Int), .int .i64 cc] 30 (0, 0))) := v.at_alloc (v.Fresh.at hf HMB.out)
  have HRB4 : Hid ((w3.alloc (.cells #[.int .i64 rk, .bool rf, .int .i64 rn, .string rs, .slice rla rl.length rlc, .slice rka rks.length rkc] 36 (0, 0))).heap[w3.heap.size]? = some (.cells #[.int .i64 rk, .bool rf, .int .i64 rn, .string rs, .slice rla rl.length rlc, .slice rka rks.length rkc] 36 (0, 0))) := v.at_new w3 _
  clear hp hn hf HR HVB HMB HNW HF2
  dsimp only [v.M.val]
  go_upto_region 5 with (fail)
  generalize w3.alloc (.cells #[.int .i64 rk, .bool rf, .int .i64 rn, .string rs, .slice rla rl.length rlc, .slice rka rks.length rkc] 36 (0, 0)) = w4 at *
  generalize w3.heap.size = gr at *
  have HKP : Hid (∀ W : World, Fresh w4 W → (W.cell? ⟨g, 0, none⟩ = some (.int .i64 mk) ∧ W.cell? ⟨g, 1, none⟩ = some (.bool mf) ∧ W.cell? ⟨g, 2, none⟩ = some (.int .i64 mn) ∧ W.cell? ⟨g, 3, none⟩ = some (.string ms) ∧ W.cell? ⟨g, 4, none⟩ = some (.slice mla ml.length mlc) ∧ W.cell? ⟨g, 5, none⟩ = some (.slice mka mks.length mkc) ∧ W.cell? ⟨g + 1, 0, none⟩ = some (.int .i64 (n : Int)) ∧ W.cell? ⟨g + 1, 1, none⟩ = some (.int .i64 cc) ∧ W.cell? ⟨gr, 0, none⟩ = some (.int .i64 rk) ∧ W.cell? ⟨gr, 1, none⟩ = some (.bool rf) ∧ W.cell? ⟨gr, 2, none⟩ = some (.int .i64 rn) ∧ W.cell? ⟨gr, 3, none⟩ = some (.string rs) ∧ W.cell? ⟨gr, 4, none⟩ = some (.slice rla rl.length rlc) ∧ W.cell? ⟨gr, 5, none⟩ = some (.slice rka rks.length rkc))) := fun W f => by
    have h1 := v.Fresh.at f HVB4.out
    have h2 := v.Fresh.at f HMB4.out
    have h3 := v.Fresh.at f HRB4.out
    exact ⟨cell_of_at h1 rfl, cell_of_at h1 rfl, cell_of_at h1 rfl, cell_of_at h1 rfl, cell_of_at h1 rfl, cell_of_at h1 rfl, cell_of_at h2 rfl, cell_of_at h2 rfl, cell_of_at h3 rfl, cell_of_at h3 rfl, cell_of_at h3 rfl, cell_of_at h3 rfl, cell_of_at h3 rfl, cell_of_at h3 rfl⟩
  obtain ⟨k0, k1, k2, k3, k4, k5, k6, k7, k8, k9, k10, k11, k12, k13⟩ := HKP.out w4 (.refl _)
  have HK0 : Hid (Fresh w4 w4.drew) := (Fresh.refl w4).drew
  have HOF : Hid (∀ W : World, Fresh w4 W → Calls Tryz.prog 10 #[.agg #[.int .i64 mk, .bool mf, .int .i64 mn, .string ms, .slice mla ml.length mlc, .slice mka mks.length mkc]] W fun e w' => (∃ (zk : Int) (zf : Bool) (zn : Int) (zs : ByteArray) (zla : Option Addr) (zlc : Nat) (zl : List v.M) (zka : Option Addr) (zkc : Nat) (zks : List (ByteArray × v.M)), e = .returned (.agg #[.int .i64 zk, .bool zf, .int .i64 zn, .string zs, .slice zla zl.length zlc, .slice zka zks.length zkc]) ∧ (v.M.mk zk zf zn zs zla zlc zl zka zkc zks).New W.heap.size w' ∧ (v.M.mk zk zf zn zs zla zlc zl zka zkc zks).plain = x) ∧ Fresh W w') := fun W f => by
    refine (v.ofM_any (v.M.mk mk mf mn ms mla mlc ml mka mkc mks) W (HN4.out.move f)).mono ?_
    rintro e w' ⟨⟨z, rfl, h1, h2⟩, h3⟩
    obtain ⟨zk, zf, zn, zs, zla, zlc, zl, zka, zkc, zks⟩ := z
    exact ⟨⟨zk, zf, zn, zs, zla, zlc, zl, zka, zkc, zks, rfl, h1, h2.trans HPL.out⟩, h3⟩
  have HSM : Hid (∀ (zk : Int) (zf : Bool) (zn : Int) (zs : ByteArray) (zla : Option Addr) (zlc : Nat) (zl : List v.M) (zka : Option Addr) (zkc : Nat) (zks : List (ByteArray × v.M)) (W : World), Fresh w4 W → (v.M.mk zk zf zn zs zla zlc zl zka zkc zks).At W → (v.M.mk zk zf zn zs zla zlc zl zka zkc zks).plain = x → Calls Tryz.prog 9 #[.agg #[.int .i64 zk, .bool zf, .int .i64 zn, .string zs, .slice zla zl.length zlc, .slice zka zks.length zkc], .agg #[.int .i64 rk, .bool rf, .int .i64 rn, .string rs, .slice rla rl.length rlc, .slice rka rks.length rkc]] W fun e w' => e = .returned (.bool true) ∧ Fresh W w') := fun zk zf zn zs zla zlc zl zka zkc zks W f h1 h2 => by
    have := v.rsame_any (v.M.mk zk zf zn zs zla zlc zl zka zkc zks) (v.M.mk rk rf rn rs rla rlc rl rka rkc rks) W h1 (HR4.out.move f)
    rw [h2, HPR.out, v.V.same_refl] at this
    exact this
  have HCK : Hid (cc = 0 → ∀ (zk : Int) (zf : Bool) (zn : Int) (zs : ByteArray) (zla : Option Addr) (zlc : Nat) (zl : List v.M) (zka : Option Addr) (zkc : Nat) (zks : List (ByteArray × v.M)) (W : World), (v.M.mk zk zf zn zs zla zlc zl zka zkc zks).At W → (v.M.mk zk zf zn zs zla zlc zl zka zkc zks).plain = x → Calls Tryz.prog 11 #[.agg #[.int .i64 zk, .bool zf, .int .i64 zn, .string zs, .slice zla zl.length zlc, .slice zka zks.length zkc]] W fun e w' => e = .returned (.int .i64 0) ∧ Fresh W w') := fun h0 zk zf zn zs zla zlc zl zka zkc zks W h1 h2 => by
    obtain ⟨q1, q2⟩ := HC.out h0
    have := v.rcheck_any (v.M.mk zk zf zn zs zla zlc zl zka zkc zks) W h1 (by rw [h2]; exact q2)
    rw [h2, q1] at this
    exact this
  clear HVB4 HMB4 HRB4 HC
  go_region_held3 (fun w' => (w'.cell? ⟨g, 0, none⟩ = some (.int .i64 mk) ∧ w'.cell? ⟨g, 1, none⟩ = some (.bool mf) ∧ w'.cell? ⟨g, 2, none⟩ = some (.int .i64 mn) ∧ w'.cell? ⟨g, 3, none⟩ = some (.string ms) ∧ w'.cell? ⟨g, 4, none⟩ = some (.slice mla ml.length mlc) ∧ w'.cell? ⟨g, 5, none⟩ = some (.slice mka mks.length mkc) ∧ w'.cell? ⟨g + 1, 0, none⟩ = some (.int .i64 (n : Int)) ∧ w'.cell? ⟨g + 1, 1, none⟩ = some (.int .i64 cc) ∧ w'.cell? ⟨gr, 0, none⟩ = some (.int .i64 rk) ∧ w'.cell? ⟨gr, 1, none⟩ = some (.bool rf) ∧ w'.cell? ⟨gr, 2, none⟩ = some (.int .i64 rn) ∧ w'.cell? ⟨gr, 3, none⟩ = some (.string rs) ∧ w'.cell? ⟨gr, 4, none⟩ = some (.slice rla rl.length rlc) ∧ w'.cell? ⟨gr, 5, none⟩ = some (.slice rka rks.length rkc))) (go_keep)
    (first
      | (go_at_call 10; (with_reducible refine (HOF.out _ HK0.out).mono ?_); rintro e W1 ⟨⟨zk, zf, zn, zs, zla, zlc, zl, zka, zkc, zks, rfl, hz1, hz2⟩, hf⟩; obtain ⟨k0, k1, k2, k3, k4, k5, k6, k7, k8, k9, k10, k11, k12, k13⟩ := HKP.out W1 (HK0.out.trans hf); have HK1 := Lib.hid (HK0.out.trans hf); have HZ1 := Lib.hid hz1.at; have HZ2 := Lib.hid hz2; clear hf hz1 hz2)
      | (go_at_call 9; (with_reducible refine (HSM.out zk zf zn zs zla zlc zl zka zkc zks _ HK1.out HZ1.out HZ2.out).mono ?_); rintro e W2 ⟨rfl, hf⟩; obtain ⟨k0, k1, k2, k3, k4, k5, k6, k7, k8, k9, k10, k11, k12, k13⟩ := HKP.out W2 (HK1.out.trans hf); have HK2 := Lib.hid (HK1.out.trans hf); clear hf))
  go_wp2_with fail
  refine (HA.out _ (HF4.out.trans HK2.out)).mono ?_
  rintro e W3 ⟨rfl, hf⟩
  have HK3 := Lib.hid (HK2.out.trans hf)
  obtain ⟨k0, k1, k2, k3, k4, k5, k6, k7, k8, k9, k10, k11, k12, k13⟩ := HKP.out W3 HK3.out
  clear hf
  by_cases hcc : cc = 0
  · subst hcc
    have HCK0 := Lib.hid (HCK.out rfl)
    clear HCK
    go_wp2_with fail
    refine (HOF.out _ HK3.out).mono ?_
    rintro e W4 ⟨⟨yk, yf, yn, ys, yla, ylc, yl, yka, ykc, yks, rfl, hz1, hz2⟩, hf⟩
    have HY1 := Lib.hid hz1.at
    have HY2 := Lib.hid hz2
    have HK4 := Lib.hid (HK3.out.trans hf)
    clear hf hz1 hz2
    go_wp2_with fail
    refine (HCK0.out yk yf yn ys yla ylc yl yka ykc yks _ HY1.out HY2.out).mono ?_
    rintro e W5 ⟨rfl, hf⟩
    have HK5 := Lib.hid (HK4.out.trans hf)
    clear hf
    go_wp2
    go_ret
    exact ⟨rfl, HF4.out.trans HK5.out⟩
  · have gcc : (cc != 0) = true := by simpa using hcc
    clear hcc HCK
    go_wp2
    go_ret
    exact ⟨rfl, HF4.out.trans HK3.out⟩
theorem reads_main (s : ByteArray) (w : World) (hE : Env w) : Calls Tryz.prog 3 #[.string s] w fun e w' => e = .returned (.bool true) ∧ Fresh w w' := by
  by_cases h5 : 3000 < s.size
  · exact reads_long s w h5 hE
  · have hsl : s.data.toList.length = s.size := Array.length_toList
    have e := tx_of s
    generalize s.data.toList = l at *
    subst e
    exact reads_short l w (by omega) hE
end y
end Go.Proofs.YtcljplkkgpjhlaaGreatDoorR

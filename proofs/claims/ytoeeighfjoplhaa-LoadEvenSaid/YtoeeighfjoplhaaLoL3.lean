/-
  Contracts of hall's loads, of the closure that move looks with, and of move.
-/
import Derived.Test.YtoeeighfjoplhaaLoHe
import Derived.Test.YtoeeighfjoplhaaLoAl
import Derived.Test.YtoeeighfjoplhaaTail
/-
  Contracts of load's closures and small functions: loads, busiest, emptier, Choose, Loads.
-/
namespace Go.Proofs.Ytoeeighfjoplhaa
open Go.RowKit

/-- A row of all cores' numbers. -/
def ldF (ls : List Int) (x : Int) : Int := ls.getD x.toNat 0
section
variable {w : World}
set_option maxRecDepth 100000 in
set_option maxHeartbeats 4000000 in
theorem cmpLoads_any {q n c : Nat} {A : Option Addr} {ls : List Int} {x y : Int} (hq : w.cell? ⟨q, 0, none⟩ = some (.slice A n c)) (hr : Rw 1 cI 0 w Anyb (.slice A n c) ls) (hn : ls.length = n) (hx : 0 ≤ x ∧ x < (n : Int)) (hy : 0 ≤ y ∧ y < (n : Int)) :
    Calls Try.prog 55 #[.int .i64 x, .int .i64 y, .pointer (some ⟨q, 0, none⟩)] w fun e w' => e = .returned (.int .i64 (cmpI (ldF ls y) (ldF ls x))) ∧ Kp No w w' := by
  obtain ⟨i, rfl⟩ : ∃ i : Nat, x = (i : Int) := ⟨x.toNat, by omega⟩
  obtain ⟨j, rfl⟩ : ∃ i : Nat, y = (i : Int) := ⟨y.toNat, by omega⟩
  obtain ⟨b, o, rfl⟩ := hr.there (by omega)
  have HB := hid (fun (W : World) (k : Kp No w W) => show W.cell? ⟨q, 0, none⟩ = some (.slice (some ⟨b, o, none⟩) n c) ∧ W.cell? ⟨b, o + i, none⟩ = some (.int .i64 (ldF ls i)) ∧ W.cell? ⟨b, o + j, none⟩ = some (.int .i64 (ldF ls j)) from by
    have h1 := hr.cell (j := i) (i := 0) k (by omega) (by omega) rfl
    have h2 := hr.cell (j := j) (i := 0) k (by omega) (by omega) rfl
    rw [Nat.mul_one, Nat.add_zero] at h1 h2
    exact ⟨(k.cell (p := ⟨q, 0, none⟩) (World.block_lt_of_cell? w _ hq) id).trans hq, h1, h2⟩)
  obtain ⟨u, hu⟩ : ∃ u, ldF ls (i : Int) = u := ⟨_, rfl⟩
  obtain ⟨v, hv⟩ : ∃ v, ldF ls (j : Int) = v := ⟨_, rfl⟩
  rw [hu, hv] at HB
  rw [hu, hv]
  have mixed : Try.prog.follows .mixedOrders = true := by kernel_rfl
  have gi : (i : Int) < (n : Int) := hx.2
  have gj : (j : Int) < (n : Int) := hy.2
  clear hq hr hu hv hx hy hn
  go_enter Try.func55, Try.ntmps55
  go_upto_region 1 with fail
  refine region_all (fun W => Kp No w W) mixed (by kernel_rfl) ((Kp.refl No w).drew) ?_
  repeat ((first | ((with_reducible refine cl_val (v := ?_) ?_ ?_ ?_); rotate_left; (focus (go_simp; done)); (focus (intro w' hw; obtain ⟨z0, z1, z2⟩ := HB.out _ hw; go_simp; (try with_reducible rfl); done)))); simp only [Act.put, List.setIfInBounds_toArray, List.set_cons_zero, List.set_cons_succ])
  refine cl_call (v := .int .i64 (cmpI v u)) (by first | rfl | go_simp) (fun w' hw => by go_simp) (fun w' hw => (cmp_any v u w').mono fun e w'' h => ⟨h.1, by rw [h.2]; exact hw⟩) ?_
  simp only [Act.put, List.setIfInBounds_toArray, List.set_cons_zero, List.set_cons_succ]
  repeat ((first | ((with_reducible refine cl_val (v := ?_) ?_ ?_ ?_); rotate_left; (focus (go_simp; done)); (focus (intro w' hw; obtain ⟨z0, z1, z2⟩ := HB.out _ hw; go_simp; (try with_reducible rfl); done)))); simp only [Act.put, List.setIfInBounds_toArray, List.set_cons_zero, List.set_cons_succ])
  refine cl_nil fun w5 hw => ?_
  have K5 := hid hw
  clear hw
  go_wp2_with fail
  go_ret
  exact ⟨rfl, K5.out⟩
set_option maxRecDepth 100000 in
set_option maxHeartbeats 4000000 in
theorem cmpChoose_any {q n c : Nat} {A : Option Addr} {ls : List Int} {x y : Int} (hq : w.cell? ⟨q, 0, none⟩ = some (.slice A n c)) (hr : Rw 1 cI 0 w Anyb (.slice A n c) ls) (hn : ls.length = n) (hx : 0 ≤ x ∧ x < (n : Int)) (hy : 0 ≤ y ∧ y < (n : Int)) :
    Calls Try.prog 30 #[.int .i64 x, .int .i64 y, .pointer (some ⟨q, 0, none⟩)] w fun e w' => e = .returned (.int .i64 (cmpI (ldF ls x) (ldF ls y))) ∧ Kp No w w' := by
  obtain ⟨i, rfl⟩ : ∃ i : Nat, x = (i : Int) := ⟨x.toNat, by omega⟩
  obtain ⟨j, rfl⟩ : ∃ i : Nat, y = (i : Int) := ⟨y.toNat, by omega⟩
  obtain ⟨b, o, rfl⟩ := hr.there (by omega)
  have HB := hid (fun (W : World) (k : Kp No w W) => show W.cell? ⟨q, 0, none⟩ = some (.slice (some ⟨b, o, none⟩) n c) ∧ W.cell? ⟨b, o + i, none⟩ = some (.int .i64 (ldF ls i)) ∧ W.cell? ⟨b, o + j, none⟩ = some (.int .i64 (ldF ls j)) from by
    have h1 := hr.cell (j := i) (i := 0) k (by omega) (by omega) rfl
    have h2 := hr.cell (j := j) (i := 0) k (by omega) (by omega) rfl
    rw [Nat.mul_one, Nat.add_zero] at h1 h2
    exact ⟨(k.cell (p := ⟨q, 0, none⟩) (World.block_lt_of_cell? w _ hq) id).trans hq, h1, h2⟩)
  obtain ⟨u, hu⟩ : ∃ u, ldF ls (i : Int) = u := ⟨_, rfl⟩
  obtain ⟨v, hv⟩ : ∃ v, ldF ls (j : Int) = v := ⟨_, rfl⟩
  rw [hu, hv] at HB
  rw [hu, hv]
  have mixed : Try.prog.follows .mixedOrders = true := by kernel_rfl
  have gi : (i : Int) < (n : Int) := hx.2
  have gj : (j : Int) < (n : Int) := hy.2
  clear hq hr hu hv hx hy hn
  go_enter Try.func30, Try.ntmps30
  go_upto_region 1 with fail
  refine region_all (fun W => Kp No w W) mixed (by kernel_rfl) ((Kp.refl No w).drew) ?_
  repeat ((first | ((with_reducible refine cl_val (v := ?_) ?_ ?_ ?_); rotate_left; (focus (go_simp; done)); (focus (intro w' hw; obtain ⟨z0, z1, z2⟩ := HB.out _ hw; go_simp; (try with_reducible rfl); done)))); simp only [Act.put, List.setIfInBounds_toArray, List.set_cons_zero, List.set_cons_succ])
  refine cl_call (v := .int .i64 (cmpI u v)) (by first | rfl | go_simp) (fun w' hw => by go_simp) (fun w' hw => (cmp_any u v w').mono fun e w'' h => ⟨h.1, by rw [h.2]; exact hw⟩) ?_
  simp only [Act.put, List.setIfInBounds_toArray, List.set_cons_zero, List.set_cons_succ]
  repeat ((first | ((with_reducible refine cl_val (v := ?_) ?_ ?_ ?_); rotate_left; (focus (go_simp; done)); (focus (intro w' hw; obtain ⟨z0, z1, z2⟩ := HB.out _ hw; go_simp; (try with_reducible rfl); done)))); simp only [Act.put, List.setIfInBounds_toArray, List.set_cons_zero, List.set_cons_succ])
  refine cl_nil fun w5 hw => ?_
  have K5 := hid hw
  clear hw
  go_wp2_with fail
  go_ret
  exact ⟨rfl, K5.out⟩

theorem cmpI_neg {x y : Int} : cmpI x y < 0 ↔ x < y := by
  unfold cmpI
  by_cases h1 : x < y
  · simp [h1]
  · by_cases h2 : y < x
    · simp [h1, h2]
    · simp [h1, h2]
/-- The order of cores by their loads. -/
def ldR (ls : List Int) (x y : Int) : Prop := ldF ls y < ldF ls x ∨ (ldF ls x = ldF ls y ∧ x < y)
theorem ldR_tr {ls : List Int} {x y z : Int} (h1 : ldR ls x y) (h2 : ldR ls y z) : ldR ls x z := by unfold ldR at *; omega
theorem ldR_irr (ls : List Int) (x : Int) : ¬ ldR ls x x := by unfold ldR; omega
/-- The cores of a set, in that order. -/
structure Bz (s : Nat) (ls : List Int) (l : List Int) : Prop where
  mem : ∀ x, x ∈ l ↔ ∃ i : Nat, i < 64 ∧ x = (i : Int) ∧ s.testBit i = true
  srt : l.Pairwise (ldR ls)
theorem Bz.len {s : Nat} {ls l : List Int} (h : Bz s ls l) : l.length ≤ 64 := by
  have := nodup_le l (nums (al s)) (h.srt.imp fun {x y} hr e => by subst e; exact ldR_irr ls _ hr) fun x hx => mem_alI.2 ((h.mem x).1 hx)
  have := nums_len64 s
  omega
set_option maxRecDepth 100000 in
set_option maxHeartbeats 4000000 in
theorem busiest_any {s c : Nat} {A : Option Addr} {ls : List Int} (hs : U64 s) (hr : Rw 1 cI 0 w Anyb (.slice A 64 c) ls) (hn : ls.length = 64) :
    Calls Try.prog 43 #[.int .u64 (s : Int), .slice A 64 c] w fun e w' => ∃ b m c' l, e = .returned (gsl b m c') ∧ RowI w' b m c' l ∧ Bz s ls l ∧ Kp No w w' := by
  have H0 := hid (Blk.new w 24 #[.slice A 64 c])
  have K0 := hid ((Kp.refl No w).alloc (.cells #[.slice A 64 c] 24))
  have HR := hid hr.oldP
  have HN := hid hn
  clear hr
  go_enter Try.func43, Try.ntmps43
  go_upto_region 1 with fail
  obtain ⟨q, hq⟩ : ∃ q, w.heap.size = q := ⟨_, rfl⟩
  have HQ := hid hq
  rw [hq] at H0 ⊢
  generalize w.alloc (.cells #[.slice A 64 c] 24) = w1 at H0 K0 ⊢
  clear hq
  go_upto_region 2 with (go_at_call 28; refine (all_row s _ hs).mono ?_; rintro e w2 ⟨b, m, c2, rfl, hr2, hb2, k2⟩; have HR2 := hid hr2; have HB2 := hid hb2; have K2 := hid k2; clear hr2 hb2 k2)
  have HST := hid (stable_row (R := ldR ls) (V := fun x => 0 ≤ x ∧ x < 64) (cf := fun x y => cmpI (ldF ls y) (ldF ls x)) (g := 55) (bd := #[]) (cb := #[.pointer (some ⟨q, 0, none⟩)]) (w := w2) ⟨fun h1 h2 => ldR_tr h1 h2⟩ HR2.out
    (fun k hk => ⟨fun args w => by first | rfl | kernel_rfl, fun W kW x y hx hy => by
      have hbk := HB2.out k hk
      have hlt := H0.out.lt
      have hc : W.cell? ⟨q, 0, none⟩ = some (.slice A 64 c) := by
        have b2 := (H0.out.kp0 K2.out).kp kW fun e => by have e : q = k := e; omega
        exact b2.cell 0
      have hrw : Rw 1 cI 0 W (fun i => i < w.heap.size) (.slice A 64 c) ls := (((HR.out.kp0 K0.out).kp0 K2.out).kp kW fun i _ hi e => by
        have e : i = k := e
        have := HQ.out
        omega)
      refine (cmpLoads_any hc hrw.anyP HN.out (by omega) (by omega)).mono ?_
      rintro e w' ⟨rfl, k'⟩
      exact ⟨rfl, k'⟩⟩)
    (fun x hx => by
      obtain ⟨i, h1, h2, _⟩ := mem_alI.1 hx
      omega)
    (fun i p _ hpi him => by
      have hrise := pair_srt (nums_rise s) p i (Nat.zero_le _) hpi (by have := HR2.out.1; omega)
      by_cases hlt : ldF ls (rowf (nums (al s)) p) < ldF ls (rowf (nums (al s)) i)
      · exact .inl ⟨cmpI_neg.2 hlt, .inl hlt⟩
      · refine .inr ⟨fun h => hlt (cmpI_neg.1 h), ?_⟩
        unfold ldR
        omega)
    (by have := HR2.out.1; have := nums_len64 s; omega))
  go_wp2_with (go_at_call 54; refine HST.out.mono ?_; rintro e w3 ⟨rfl, l, hr3, hp3, hm3, k3⟩; have HR3 := hid hr3; have HP3 := hid hp3; have HM3 := hid hm3; have K3 := hid k3; clear hr3 hp3 hm3 k3)
  go_ret
  refine ⟨b, m, c2, l, rfl, HR3.out, ⟨fun x => by rw [HM3.out, mem_alI], HP3.out⟩, (K0.out.trans K2.out).step K3.out fun i hi e => ?_⟩
  have := HB2.out i e
  have := K0.out.size
  omega
end
end Go.Proofs.Ytoeeighfjoplhaa

/-
  Contracts of load's small functions: emptier, Choose, loads, Loads.
-/
namespace Go.Proofs.Ytoeeighfjoplhaa
open Go.RowKit
section
variable {w : World}
/-- Those of the first k of a list whose load, and one, is below a load. -/
structure Em (ls l : List Int) (ld : Int) (k s : Nat) : Prop where
  u : U64 s
  bit : ∀ i, i < 64 → (s.testBit i = true ↔ ∃ t, t < k ∧ rowf l t = (i : Int) ∧ ldF ls (i : Int) + 1 < ld)
set_option maxRecDepth 100000 in
set_option maxHeartbeats 4000000 in
theorem emptier_any {b : Option Nat} {m c c2 : Nat} {A : Option Addr} {ls l : List Int} {ld : Int} (hl : RowI w b m c2 l) (hr : Rw 1 cI 0 w Anyb (.slice A 64 c) ls) (hn : ls.length = 64) (hin : ∀ x ∈ l, 0 ≤ x ∧ x < 64) (hm : m ≤ 64) (hbd : ∀ x, 0 ≤ ldF ls x ∧ ldF ls x ≤ 1000) :
    Calls Try.prog 44 #[gsl b m c2, .slice A 64 c, .int .i64 ld] w fun e w' => ∃ s : Nat, e = .returned (.int .u64 (s : Int)) ∧ Em ls l ld m s ∧ Kp No w w' := by
  have hlen := hl.1
  obtain ⟨bq, oq, rfl⟩ := hr.there (by omega)
  have HL := hid (fun (W : World) (k : Kp No w W) (j : Nat) (hj : j < m) => show ∃ kk, b = some kk ∧ W.cell? ⟨kk, j, none⟩ = some (.int .i64 (rowf l j)) from by
    cases b with
    | none => obtain ⟨rfl, rfl, rfl⟩ := hl.none_nil; omega
    | some kk => exact ⟨kk, rfl, (hl.kp0 k).cell (by omega)⟩)
  have HR := hid (fun (W : World) (k : Kp No w W) (j : Nat) (hj : j < 64) => show W.cell? ⟨bq, oq + j, none⟩ = some (.int .i64 (ldF ls (j : Int))) from by
    have h1 := hr.cell (j := j) (i := 0) k (by omega) (by omega) rfl
    rw [Nat.mul_one, Nat.add_zero] at h1
    exact h1)
  have HIN := hid (fun j (hj : j < m) => hin (rowf l j) (mem_rowf.2 ⟨j, by omega, rfl⟩))
  have HBD := hid hbd
  have HRI := hid (fun j k (hj : j < m) (hk : k < m) => show rowf l j = rowf l j from rfl)
  clear hl hr hin hbd HRI hn hlen
  unfold gsl
  go_enter Try.func44, Try.ntmps44
  go_wp2_with fail
  go_loopw [7, 12] (fun u v wr => ∃ (k s : Nat), u = .int .u64 (s : Int) ∧ v = .int .i64 (k : Int) ∧ k ≤ m ∧ Hid (Em ls l ld k s) ∧ Hid (Kp No w wr)) (fun _ v _ => m - (vNum v).toNat)
  case atStart => exact ⟨0, 0, rfl, rfl, Nat.zero_le _, hid ⟨U64.zero, fun i hi => by simp⟩, hid (Kp.refl _ _)⟩
  case round =>
    obtain ⟨k, s, rfl, rfl, hk, HE, HK⟩ := hrel
    have wk := wrapI (x := (k : Int) + 1) (by unfold I64; omega)
    by_cases hlt : k < m
    · have glt : (k : Int) < (m : Int) := by omega
      obtain ⟨kk, rfl, c0⟩ := HL.out _ HK.out k hlt
      have hx := HIN.out k hlt
      obtain ⟨i, hi⟩ : ∃ i : Nat, rowf l k = (i : Int) := ⟨(rowf l k).toNat, by omega⟩
      have HX := hid hi
      rw [hi] at c0 hx
      have c1 := HR.out _ HK.out i (by omega)
      have hbd := HBD.out (i : Int)
      obtain ⟨v, hv⟩ : ∃ v, ldF ls (i : Int) = v := ⟨_, rfl⟩
      have HV := hid hv
      rw [hv] at c1 hbd
      clear hv hi
      simp only [ga, Option.map_some] at *
      have gi : (i : Int) < 64 := hx.2
      have wv := wrapI (x := v + 1) (by unfold I64; omega)
      by_cases hc : v + 1 < ld
      · have HN := hid (show Em ls l ld (k + 1) (wth s (i : Int)) from ⟨wth_U64 HE.out.u _, fun j hj => by
          rw [wth_bit, Bool.or_eq_true, decide_eq_true_eq, HE.out.bit j hj]
          constructor
          · rintro (⟨t, h1, h2, h3⟩ | ⟨_, _, h⟩)
            · exact ⟨t, by omega, h2, h3⟩
            · exact ⟨k, by omega, by rw [HX.out, h], by rw [h, HV.out]; exact hc⟩
          · rintro ⟨t, h1, h2, h3⟩
            by_cases e : t = k
            · subst e
              rw [HX.out] at h2
              exact .inr ⟨by omega, by omega, h2.symm⟩
            · exact .inl ⟨t, by omega, h2, h3⟩⟩)
        have HW := hid (fun W => with_any s (i : Int) W HE.out.u)
        go_wp2_with (go_at_call 56; refine (HW.out _).mono ?_; rintro e w4 ⟨rfl, rfl⟩)
        go_roundw
        case rel => exact ⟨k + 1, wth s (i : Int), rfl, by go_num, by omega, HN, HK⟩
        case measure => simp [vNum] <;> omega
      · have HN := hid (show Em ls l ld (k + 1) s from ⟨HE.out.u, fun j hj => by
          rw [HE.out.bit j hj]
          constructor
          · rintro ⟨t, h1, h2, h3⟩
            exact ⟨t, by omega, h2, h3⟩
          · rintro ⟨t, h1, h2, h3⟩
            by_cases e : t = k
            · subst e
              rw [HX.out] at h2
              rw [← h2, HV.out] at h3
              exact absurd h3 hc
            · exact ⟨t, by omega, h2, h3⟩⟩)
        go_wp2_with fail
        go_roundw
        case rel => exact ⟨k + 1, s, rfl, by go_num, by omega, HN, HK⟩
        case measure => simp [vNum] <;> omega
    · obtain rfl : k = m := by omega
      have glt : ¬ (k : Int) < (k : Int) := by omega
      go_wp2_with fail
      go_ret
      exact ⟨s, rfl, HE.out, HK.out⟩
/-- The core that is chosen. -/
def Chs (cs : Nat) (ls : List Int) (m : Int) : Prop :=
  (m = -1 ∧ ∀ i : Nat, i < 64 → i < ls.length → cs.testBit i = false) ∨
  ∃ i : Nat, m = (i : Int) ∧ i < 64 ∧ i < ls.length ∧ cs.testBit i = true ∧ ∀ j : Nat, j < 64 → j < ls.length → cs.testBit j = true → ldF ls (i : Int) ≤ ldF ls (j : Int) ∧ (ldF ls (i : Int) = ldF ls (j : Int) → i ≤ j)
theorem Chs.one {cs : Nat} {ls : List Int} {m m' : Int} (h : Chs cs ls m) (h' : Chs cs ls m') : m = m' := by
  rcases h with ⟨e, h⟩ | ⟨i, e, h1, h2, h3, h4⟩
  · rcases h' with ⟨e', _⟩ | ⟨j, _, g1, g2, g3, _⟩
    · rw [e, e']
    · rw [h j g1 g2] at g3
      cases g3
  · rcases h' with ⟨_, h⟩ | ⟨j, e', g1, g2, g3, g4⟩
    · rw [h i h1 h2] at h3
      cases h3
    · have a1 := h4 j g1 g2 g3
      have a2 := g4 i h1 h2 h3
      have e3 : ldF ls (i : Int) = ldF ls (j : Int) := by omega
      have := a1.2 e3
      have := a2.2 e3.symm
      omega
set_option maxRecDepth 100000 in
set_option maxHeartbeats 4000000 in
theorem lchoose_any {cs n c : Nat} {A : Option Addr} {ls : List Int} (hcs : U64 cs) (hr : Rw 1 cI 0 w Anyb (.slice A n c) ls) (hn : ls.length = n) :
    Calls Try.prog 13 #[.int .u64 (cs : Int), .slice A n c] w fun e w' => ∃ m, e = .returned (.int .i64 m) ∧ Chs cs ls m ∧ Kp No w w' := by
  have H0 := hid (Blk.new w 24 #[.slice A n c])
  have K0 := hid ((Kp.refl No w).alloc (.cells #[.slice A n c] 24))
  have HR := hid hr.oldP
  have HN := hid hn
  have HU := hid (fun W => up_any (n : Int) W)
  have HUA := hid (show U64 (cs &&& up (n : Int)) from hcs.and)
  have hb := and_bits hcs (up_U64 (n : Int))
  have hwu := wrap_nat HUA.out
  have HC := hid hcs
  clear hr hn hcs
  go_enter Try.func13, Try.ntmps13
  obtain ⟨q, hq⟩ : ∃ q, w.heap.size = q := ⟨_, rfl⟩
  have HQ := hid hq
  have c0 : (w.alloc (.cells #[.slice A n c] 24)).cell? ⟨w.heap.size, 0, none⟩ = some (.slice A n c) := H0.out.cell 0
  go_upto_region 2 with (first
    | (go_at_call 25; refine (HU.out _).mono ?_; rintro e w2 ⟨rfl, rfl⟩)
    | (go_at_call 28; refine (all_row _ _ HUA.out).mono ?_; rintro e w2 ⟨b, m, c2, rfl, hr2, hb2, k2⟩; have HR2 := hid hr2; have HB2 := hid hb2; have K2 := hid k2; clear hr2 hb2 k2))
  rw [hq] at H0
  generalize w.alloc (.cells #[.slice A n c] 24) = w1 at H0 K0 K2 HB2 ⊢
  have HLN := hid HR2.out.1
  have HMEM := hid (fun x => show x ∈ nums (al (cs &&& up (n : Int))) ↔ ∃ i : Nat, i < 64 ∧ x = (i : Int) ∧ cs.testBit i = true ∧ i < n from by
    rw [mem_alI]
    constructor
    · rintro ⟨i, h1, h2, h3⟩
      rw [Nat.testBit_and, Bool.and_eq_true, up_bit, decide_eq_true_eq] at h3
      exact ⟨i, h1, h2, h3.1, by omega⟩
    · rintro ⟨i, h1, h2, h3, h4⟩
      exact ⟨i, h1, h2, by rw [Nat.testBit_and, h3, up_bit, decide_eq_true ⟨h1, by omega⟩]; rfl⟩)
  clear hq hb hwu c0
  by_cases hm0 : m = 0
  · subst hm0
    have HE := hid (show Chs cs ls (-1) from .inl ⟨rfl, fun i h1 h2 => by
      rcases hbb : cs.testBit i with _ | _
      · rfl
      · exfalso
        have := (HMEM.out (i : Int)).2 ⟨i, h1, rfl, hbb, by have := HN.out; omega⟩
        rw [List.eq_nil_of_length_eq_zero HLN.out.symm] at this
        cases this⟩)
    unfold gsl
    go_wp2_with fail
    (try simp only [Exit.inBlock, Exit.then])
    go_ret
    exact ⟨-1, rfl, HE.out, K0.out.trans K2.out⟩
  · have hmz : ((m : Int) == 0) = false := by rw [beq_eq_false_iff_ne]; omega
    have hmz2 : ¬ (m : Int) = 0 := by omega
    have HST := hid (min_row (ld := ldF ls) (V := fun x => 0 ≤ x ∧ x < (n : Int)) (cf := fun x y => cmpI (ldF ls x) (ldF ls y)) (g := 30) (bd := #[]) (cb := #[.pointer (some ⟨q, 0, none⟩)]) (w := w2) (fun x y => cmpI_neg) HR2.out
      (fun k hk => ⟨fun args w => by first | rfl | kernel_rfl, fun W kW x y hx hy => by
        have hbk := HB2.out k hk
        have hlt := H0.out.lt
        have hc : W.cell? ⟨q, 0, none⟩ = some (.slice A n c) := by
          have b2 := (H0.out.kp0 K2.out).kp kW fun e => by have e : q = k := e; omega
          exact b2.cell 0
        have hrw : Rw 1 cI 0 W (fun i => i < w.heap.size) (.slice A n c) ls := (((HR.out.kp0 K0.out).kp0 K2.out).kp kW fun i _ hi e => by
          have e : i = k := e
          have := HQ.out
          omega)
        refine (cmpChoose_any hc hrw.anyP HN.out hx hy).mono ?_
        rintro e w' ⟨rfl, k'⟩
        exact ⟨rfl, k'⟩⟩)
      (fun x hx => by
        obtain ⟨i, h1, h2, _, h4⟩ := (HMEM.out x).1 hx
        omega)
      (nums_rise _) (fun e => by have := HLN.out; rw [e] at this; exact hm0 this) (by have := HLN.out; have := nums_len64 (cs &&& up (n : Int)); omega))
    unfold gsl at HST ⊢
    go_wp2_with (go_at_call 29; refine HST.out.mono ?_; rintro e w3 ⟨x, rfl, hm3, hl3, k3⟩; have HM3 := hid hm3; have HL3 := hid hl3; have K3 := hid k3; clear hm3 hl3 k3)
    go_ret
    refine ⟨x, rfl, ?_, (K0.out.trans K2.out).step K3.out fun i hi e => ?_⟩
    · obtain ⟨i, h1, h2, h3, h4⟩ := (HMEM.out x).1 HM3.out
      have hN := HN.out
      refine .inr ⟨i, h2, h1, by omega, h3, fun j g1 g2 g3 => ?_⟩
      have := HL3.out (j : Int) ((HMEM.out _).2 ⟨j, g1, rfl, g3, by omega⟩)
      rw [h2] at this
      exact ⟨this.1, fun e => by have := this.2 e; omega⟩
    · have := HB2.out i e
      have := K0.out.size
      omega
end
end Go.Proofs.Ytoeeighfjoplhaa

namespace Go.Proofs.Ytoeeighfjoplhaa
open Go.RowKit
/-- Ints 0. -/
def z0s (n : Nat) : Array Value := (List.replicate n (Value.int .i64 0)).toArray
theorem z0s_size (n : Nat) : (z0s n).size = n := by simp [z0s]
theorem mk_ints {n : Nat} (h : n ≤ 1000000) (w : World) : (Instr.makeSlice 24 (.int .i64 (n : Int)) (.int .i64 (n : Int))).run Try.prog w = .ok (.slice (some ⟨w.heap.size, 0, none⟩) n n) (w.alloc (.cells (z0s n) 3)) := by
  obtain ⟨i, hi, hz, hs, hb⟩ := info_parts infoInt
  have hr := run_make (P := Try.prog) w 24 3 i (.int .i64 0) (by kernel_rfl) hi hz .i64 .i64 (n : Int) (n : Int) (by omega) (by omega) (by rw [hb]; omega) (by omega)
  rw [hs] at hr
  simp only [Int.toNat_natCast, Nat.mul_one] at hr
  have e : madeCells (Value.int IntKind.i64 0).cells n = z0s n := by
    apply Array.ext'
    rw [show (Value.int IntKind.i64 0).cells = #[.int .i64 0] from rfl, toList_madeCells_one]
    simp [z0s]
  rw [← e]
  exact hr
/-- The loads of a hall. -/
def ldL (P : Nat → List Int) : List Int := (List.range 64).map fun k => ((P k).length : Int)
theorem ldL_len (P : Nat → List Int) : (ldL P).length = 64 := by simp [ldL]
theorem ldL_at (P : Nat → List Int) {k : Nat} (hk : k < 64) : ldF (ldL P) (k : Int) = ((P k).length : Int) := by
  unfold ldF ldL
  simp [List.getD, hk]
section
variable {w : World} {Bd hb : Nat} {sv : Value} {bs : Nat → Option Nat} {cp : Nat → Nat} {P : Nat → List Int}
theorem Hl.range64 (h : Hl w Bd hb sv bs cp P) {vs : List Value} (hl : vs.length = 64) (hv : ∀ k, k < 64 → vs[k]? = some (gsl (bs k) (P k).length (cp k))) : w.rangeAt hb 1 vs := fun j v hj => by
  have h64 : j < 64 := by have := (List.getElem?_eq_some_iff.1 hj).1; omega
  have h1 := hv j h64
  rw [hj] at h1
  cases h1
  exact h.cell h64
set_option maxRecDepth 100000 in
set_option maxHeartbeats 4000000 in
theorem loads_any (h : Hl w Bd hb sv bs cp P) (hP : ∀ k, k < 64 → (P k).length ≤ 1000) :
    Calls Try.prog 42 #[.pointer (some ⟨hb, 0, none⟩)] w fun e w' => ∃ lb, e = .returned (gsl (some lb) 64 64) ∧ RowI w' (some lb) 64 64 (ldL P) ∧ w.heap.size ≤ lb ∧ Kp No w w' := by
  have HH := hid h
  have HP := hid hP
  obtain ⟨vs, hvs⟩ : ∃ vs, vs = (List.range 64).map fun k => gsl (bs k) (P k).length (cp k) := ⟨_, rfl⟩
  have HVL := hid (show vs.length = 64 from by rw [hvs]; simp)
  have HVA := hid (show ∀ k, k < 64 → vs[k]? = some (gsl (bs k) (P k).length (cp k)) from fun k hk => by rw [hvs]; simp [hk])
  clear hvs h hP
  go_enter Try.func42, Try.ntmps42
  have hmk : ∀ w, (Instr.makeSlice 24 (.int .i64 64) (.int .i64 64)).run Try.prog w = .ok (.slice (some ⟨w.heap.size, 0, none⟩) 64 64) (w.alloc (.cells (z0s 64) 3)) := fun w => mk_ints (n := 64) (by omega) w
  go_upto_region 2 with fail
  clear hmk
  have K0 := hid ((Kp.refl No w).alloc (.cells (z0s 64) 3))
  have B0 := hid (Blk.new w 3 (z0s 64))
  have HZ := hid (show (z0s 64).size = 64 from z0s_size 64)
  generalize (z0s 64) = zs at K0 B0 HZ ⊢
  obtain ⟨lb, hlb⟩ : ∃ q, w.heap.size = q := ⟨_, rfl⟩
  have HLB := hid hlb
  rw [hlb] at B0 ⊢
  generalize w.alloc (.cells zs 3) = w1 at B0 K0 ⊢
  clear hlb
  have HRG := hid ((HH.out.kp0 K0.out).range64 HVL.out HVA.out)
  go_upto_region 3 with (refine wpList_load_mid rfl _ (.tmp 9) rfl hb 1 (by rfl) vs _ HRG.out arrU rfl (by rw [HVL.out]; exact arrS) ?_)
  go_wp2_with fail
  go_loopw [11] (fun u wr => ∃ (k : Nat), u = .int .i64 (k : Int) ∧ k ≤ 64 ∧ Hid (∃ cs, Blk wr lb 3 cs ∧ cs.size = 64 ∧ ∀ j, j < k → cs[j]? = some (.int .i64 ((P j).length : Int))) ∧ Hid (Kp No w wr)) (fun u _ => 64 - (vNum u).toNat)
  case atStart => exact ⟨0, rfl, by omega, hid ⟨zs, B0.out, HZ.out, fun j hj => by omega⟩, K0⟩
  case round =>
    obtain ⟨k, rfl, hk64, HB, HK⟩ := hrel
    clear B0 K0 HRG
    have wk := wrapI (x := (k : Int) + 1) (by unfold I64; omega)
    by_cases hlk : k < 64
    · have glk : (k : Int) < 64 := by omega
      have hrun := run_row64 HVL.out hlk (HVA.out k hlk) wr
      obtain ⟨cs, hb1, hsz, hcs⟩ := HB.out
      have HB1 := hid hb1
      have HCS := hid hcs
      have hck : wr.cell? ⟨lb, k, none⟩ = some (cs[k]'(by omega)) := by rw [hb1.cell, Array.getElem?_eq_getElem (by omega)]
      have hfk := hb1.frozen k
      unfold gsl at hrun
      clear hb1 hcs HB
      go_wp2_with fail
      go_roundw
      case rel =>
        refine ⟨k + 1, by go_num, by omega, hid ⟨_, HB1.out.put k _, by rw [Array.size_setIfInBounds]; exact hsz, fun j hj => ?_⟩, hid (HK.out.step (Kp.set1 lb k wr _) fun i hi e => by
          have e : i = lb := e
          have := HLB.out
          omega)⟩
        by_cases e : j = k
        · subst e
          rw [Array.getElem?_setIfInBounds_self]
          simp [hsz, hlk]
        · rw [Array.getElem?_setIfInBounds_ne (fun q => e q.symm)]
          exact HCS.out j (by omega)
      case measure => simp [vNum] <;> omega
    · obtain rfl : k = 64 := by omega
      have glk : ¬ ((64 : Nat) : Int) < 64 := by omega
      go_wp2_with fail
      go_ret
      obtain ⟨cs, hb1, hsz, hcs⟩ := HB.out
      refine ⟨lb, rfl, ⟨(ldL_len P).symm, Nat.le_refl _, by simp [maxLen], cs, hb1, hsz, fun j hj => ?_⟩, by have := HLB.out; omega, HK.out⟩
      rw [hcs j hj]
      have := ldL_at P hj
      unfold ldF at this
      rw [Int.toNat_natCast] at this
      rw [this]
end
end Go.Proofs.Ytoeeighfjoplhaa

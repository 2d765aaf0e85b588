/-
  Contract of slices.swapRangeCmpFunc at []int.
-/
import Derived.Test.YtoeeighfjoplhaaLoV
namespace Go.Proofs.Ytoeeighfjoplhaa
open Go.RowKit
set_option maxRecDepth 100000 in
set_option maxHeartbeats 4000000 in
theorem swapRange_any {w0 w : World} {bk n cap x y m : Nat} {g : FuncId} {bd cb : Array Value} {F : Nat → Int} (h : RowF w0 w bk n F) (hxy : x + m ≤ y) (hyn : y + m ≤ n) (hn : n ≤ 1000000) :
    Calls Try.prog 80 #[.slice (some ⟨bk, 0, none⟩) n cap, .int .i64 (x : Int), .int .i64 (y : Int), .int .i64 (m : Int), .func (.func g) bd cb] w fun e w' => e = .returned (.tuple #[]) ∧ RowF w0 w' bk n (swF x y m F) := by
  have H0 := hid h
  have mixed : Try.prog.follows .mixedOrders = true := by kernel_rfl
  clear h
  go_enter Try.func80, Try.ntmps80
  go_wp2_with fail
  go_loopw [10] (fun u wr => ∃ i : Nat, u = .int .i64 (i : Int) ∧ i ≤ m ∧ Hid (RowF w0 wr bk n (swF x y i F))) (fun u _ => m - (vNum u).toNat)
  case atStart => exact ⟨0, rfl, by omega, by rw [swF_zero]; exact H0⟩
  case round =>
    obtain ⟨i, rfl, him, HG⟩ := hrel
    have hwi := wrapI (x := (i : Int) + 1) (by unfold I64; omega)
    by_cases hlt : i < m
    · have glt : (i : Int) < (m : Int) := by omega
      obtain ⟨p, hp⟩ : ∃ p, p = x + i := ⟨_, rfl⟩
      obtain ⟨q, hq⟩ : ∃ q, q = y + i := ⟨_, rfl⟩
      have ep : (x : Int) + (i : Int) = (p : Int) := by omega
      have eq : (y : Int) + (i : Int) = (q : Int) := by omega
      have hwp := wrapI (x := (p : Int)) (by unfold I64; omega)
      have hwq := wrapI (x := (q : Int)) (by unfold I64; omega)
      have hpn : (p : Int) < (n : Int) := by omega
      have hqn : (q : Int) < (n : Int) := by omega
      have hpq : p ≠ q := by omega
      obtain ⟨G, hG⟩ : ∃ G, swF x y i F = G := ⟨_, rfl⟩
      have HN := hid (show swp2 p q G = swF x y (i + 1) F from by rw [← hG, hp, hq]; exact swF_succ (by omega) F)
      rw [hG] at HG
      obtain ⟨u, hu⟩ : ∃ u, G p = u := ⟨_, rfl⟩
      obtain ⟨v, hv⟩ : ∃ v, G q = v := ⟨_, rfl⟩
      have HSW := hid (HG.out.swap (x := p) (y := q) (by omega) (by omega) hpq)
      have cp := HG.out.cell (j := p) (by omega)
      have cq := HG.out.cell (j := q) (by omega)
      have fp := HG.out.frozen p
      have fq := HG.out.frozen q
      rw [hu] at cp
      rw [hv] at cq
      rw [hu, hv] at HSW
      clear hu hv hG hp hq
      have c2 : (wr.setCell ⟨bk, p, none⟩ (.int .i64 v)).cell? ⟨bk, q, none⟩ = some (.int .i64 v) := by
        rw [World.cell?_setCell_other _ _ _ _ (by intro e; simp only [Addr.mk.injEq] at e; omega)]
        exact cq
      go_wp2_with fail
      go_big_region_o
      go_wp2_with fail
      go_roundw
      case rel => exact ⟨i + 1, by go_num, by omega, hid (by have := HSW.out; rw [HN.out] at this; exact this.kp0 (Kp.refl No _).drew)⟩
      case measure => simp [vNum]; omega
    · have gnl : ¬ (i : Int) < (m : Int) := by omega
      go_wp2_with fail
      go_end0
      obtain rfl : i = m := by omega
      exact ⟨rfl, HG.out⟩
end Go.Proofs.Ytoeeighfjoplhaa

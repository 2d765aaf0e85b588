/-
  Contract of slices.heapSortCmpFunc at []int, whatever the comparison is.
-/
import Derived.Test.YtoeeighfjoplhaaLoPi
import Derived.Test.YtoeeighfjoplhaaLoPa
namespace Go.Proofs.Ytoeeighfjoplhaa
open Go.RowKit
section
variable {w0 w : World} {bk n cap : Nat} {g : FuncId} {bd cb : Array Value} {V : Int → Prop} {c : Int → Int → Int} {R : Int → Int → Prop} {F : Nat → Int}
set_option maxRecDepth 100000 in
set_option maxHeartbeats 4000000 in
theorem heap_any {a b : Nat} (hT : Tot R V c) (hC : Cmp w0 bk g bd cb V c) (h : RowF w0 w bk n F) (hV : ∀ k, k < n → V (F k)) (hd : Dis n F) (hab : a < b) (hbn : b ≤ n) (hn : n ≤ 1000000) :
    Calls Try.prog 60 #[.slice (some ⟨bk, 0, none⟩) n cap, .int .i64 (a : Int), .int .i64 (b : Int), .func (.func g) bd cb] w fun e w' => e = .returned (.tuple #[]) ∧ ∃ F', RowF w0 w' bk n F' ∧ Pm a b F F' ∧ Srt R a b F' := by
  have H0 := hid h
  have HT := hid hT
  have HC := hid hC
  have HV := hid hV
  have HD := hid hd
  have mixed : Try.prog.follows .mixedOrders = true := by kernel_rfl
  obtain ⟨hi, hhi⟩ : ∃ q : Nat, b - a = q := ⟨_, rfl⟩
  have ehi : (b : Int) - (a : Int) = (hi : Int) := by omega
  have whi := wrapI (x := (hi : Int)) (by unfold I64; omega)
  obtain ⟨h1, hh1⟩ : ∃ q : Nat, hi - 1 = q := ⟨_, rfl⟩
  have eh1 : (hi : Int) - 1 = (h1 : Int) := by omega
  have wh1 := wrapI (x := (h1 : Int)) (by unfold I64; omega)
  obtain ⟨hh, hhh⟩ : ∃ q : Nat, h1 / 2 = q := ⟨_, rfl⟩
  have ehh : (h1 : Int) / 2 = (hh : Int) := by omega
  have eht : (h1 : Int).tdiv 2 = (hh : Int) := by rw [Int.tdiv_eq_ediv_of_nonneg (by omega)]; omega
  have whh := wrapI (x := (hh : Int)) (by unfold I64; omega)
  clear h hT hC hV hd
  go_enter Try.func60, Try.ntmps60
  go_wp2_with fail
  go_loopw [11] (fun u wr => ∃ (i : Int) (G : Nat → Int), u = .int .i64 i ∧ -1 ≤ i ∧ i ≤ (hh : Int) ∧ Hid (RowF w0 wr bk n G) ∧ Hid (Pm a b F G) ∧ Hid (Hp R a hi (i + 1).toNat G)) (fun u _ => (vNum u + 1).toNat)
  case atStart => exact ⟨(hh : Int), F, by go_num, by omega, by omega, H0, hid .rfl', hid (Hp.none (by omega))⟩
  case round =>
    clear H0
    obtain ⟨i, G, rfl, hi1, hi2, HG, HP, HH⟩ := hrel
    have HVG := hid (HP.out.vals HV.out hbn)
    have HDG := hid (HP.out.dis hbn HD.out)
    by_cases hge : 0 ≤ i
    · obtain ⟨k, rfl⟩ : ∃ k : Nat, i = (k : Int) := ⟨i.toNat, by omega⟩
      have wk := wrapI (x := (k : Int) - 1) (by unfold I64; omega)
      have HS := hid (sift_any (cap := cap) HT.out HC.out HG.out HVG.out HDG.out (lo := k) (hi := hi) (a := a) (by omega) (by omega) hn (by have := HH.out; rwa [show ((k : Int) + 1).toNat = k + 1 from by omega] at this))
      go_wp2_with (go_at_call 71; refine HS.out.mono ?_; rintro e w4 ⟨rfl, F4, k4, p4, s4⟩; have K4 := hid k4; have P4 := hid p4; have S4 := hid s4; clear k4 p4 s4)
      go_roundw
      case rel => exact ⟨(k : Int) - 1, F4, by go_num, by omega, by omega, K4, hid (HP.out.trans (by rw [show a + hi = b from by omega] at P4; exact P4.out)), hid (by rw [show ((k : Int) - 1 + 1).toNat = k from by omega]; exact S4.out)⟩
      case measure => simp [vNum] <;> omega
    · obtain rfl : i = -1 := by omega
      have HH0 := hid (show Hp R a hi 0 G from HH.out)
      clear HH HVG HDG
      go_wp2_with fail
      go_loopw [12] (fun u wr => ∃ (i : Int) (G : Nat → Int), u = .int .i64 i ∧ -1 ≤ i ∧ i < (hi : Int) ∧ Hid (RowF w0 wr bk n G) ∧ Hid (Pm a b F G) ∧ Hid (Hp R a (i + 1).toNat 0 G ∧ Tail R a (i + 1).toNat hi G)) (fun u _ => (vNum u + 1).toNat)
      case atStart => exact ⟨(h1 : Int), G, by go_num, by omega, by omega, HG, HP, hid (by rw [show ((h1 : Int) + 1).toNat = hi from by omega]; exact ⟨HH0.out, ⟨fun p q g1 g2 g3 => by omega, fun p q g1 g2 g3 => by omega⟩⟩)⟩
      case round =>
        clear HG HP HH0
        obtain ⟨i, G, rfl, hi1, hi2, HG, HP, HH⟩ := hrel
        have HVG := hid (HP.out.vals HV.out hbn)
        have HDG := hid (HP.out.dis hbn HD.out)
        by_cases hge : 0 ≤ i
        · obtain ⟨k, rfl⟩ : ∃ k : Nat, i = (k : Int) := ⟨i.toNat, by omega⟩
          have wk := wrapI (x := (k : Int) - 1) (by unfold I64; omega)
          obtain ⟨ak, hak⟩ : ∃ q : Nat, a + k = q := ⟨_, rfl⟩
          have eak : (a : Int) + (k : Int) = (ak : Int) := by omega
          have wak := wrapI (x := (ak : Int)) (by unfold I64; omega)
          have gak : (ak : Int) < (n : Int) := by omega
          have gan : (a : Int) < (n : Int) := by omega
          rw [show ((k : Int) + 1).toNat = k + 1 from by omega] at HH
          go_wp2_with fail
          obtain ⟨x3, hx3⟩ : ∃ x, G a = x := ⟨_, rfl⟩
          obtain ⟨y3, hy3⟩ : ∃ y, G ak = y := ⟨_, rfl⟩
          have Hx3 := hid hx3
          have Hy3 := hid hy3
          clear hx3 hy3
          have cA := HG.out.cell (j := a) (by omega)
          have cB := HG.out.cell (j := ak) (by omega)
          have fA := HG.out.frozen a
          have fB := HG.out.frozen ak
          rw [Hx3.out] at cA
          rw [Hy3.out] at cB
          obtain ⟨uC, cC⟩ := HG.out.c2 (x := a) (y := ak) (by omega) (by omega) (.int .i64 y3)
          have HG5 := hid ((HG.out.swapq (x := a) (y := ak) (by omega) (by omega)).kp0 (Kp.refl No _).drew)
          rw [Hx3.out, Hy3.out] at HG5
          go_wp2_with fail
          go_big_region_o
          clear cA cB cC fA fB
          generalize World.drew (World.setCell (World.setCell wr ⟨bk, a, none⟩ (.int .i64 y3)) ⟨bk, ak, none⟩ (.int .i64 x3)) = w5 at HG5 ⊢
          have HP5 := hid (HP.out.sw (x := a) (y := ak) (by omega) (by omega) (by omega) (by omega))
          have HB5 := hid (show Hp R a k 1 (swp2 a ak G) from fun p g1 q g2 g3 => by
            rw [swp2_o G (by omega) (by omega), swp2_o G (by omega) (by omega)]
            exact HH.out.1 p (Nat.zero_le _) q g2 (by omega))
          have HS := hid (sift_any (cap := cap) HT.out HC.out HG5.out (HP5.out.vals HV.out hbn) (HP5.out.dis hbn HD.out) (lo := 0) (hi := k) (a := a) (by omega) (by omega) hn HB5.out)
          go_wp2_with (go_at_call 71; refine HS.out.mono ?_; rintro e w4 ⟨rfl, F4, k4, p4, s4⟩; have K4 := hid k4; have P4 := hid p4; have S4 := hid s4; clear k4 p4 s4)
          go_roundw
          case rel =>
            refine ⟨(k : Int) - 1, F4, by go_num, by omega, by omega, K4, hid (HP5.out.trans (P4.out.mono (Nat.le_refl _) (by omega))), hid ?_⟩
            rw [show ((k : Int) - 1 + 1).toNat = k from by omega]
            exact ⟨S4.out, HH.out.2.pop HT.out HVG.out (by omega) (by omega) HH.out.1 (by rw [hak] at P4 ⊢; exact P4.out)⟩
          case measure => simp [vNum] <;> omega
        · obtain rfl : i = -1 := by omega
          have HF := hid (show Srt R a b G from HT.out.srt HVG.out HDG.out hbn fun p q g1 g2 g3 => by
            have := HH.out.2.srt (p - a) (q - a) (Nat.zero_le _) (by omega) (by omega)
            rwa [show a + (p - a) = p from by omega, show a + (q - a) = q from by omega] at this)
          go_wp2_with fail
          go_end0
          exact ⟨rfl, G, HG.out, HP.out, HF.out⟩
end
end Go.Proofs.Ytoeeighfjoplhaa

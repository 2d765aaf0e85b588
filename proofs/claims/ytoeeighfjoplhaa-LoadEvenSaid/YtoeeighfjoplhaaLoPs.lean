/-
  Contract of slices.breakPatternsCmpFunc at []int, of thirteen to forty-nine.
-/
import Derived.Test.YtoeeighfjoplhaaLoPr
namespace Go.Proofs.Ytoeeighfjoplhaa
open Go.RowKit
section
variable {w0 w : World} {bk n cap : Nat} {g : FuncId} {bd cb : Array Value} {V : Int → Prop} {c : Int → Int → Int} {R : Int → Int → Prop} {F : Nat → Int}
/-- A row, and a random number beside it. -/
structure Rnd (w0 W : World) (bk n : Nat) (F : Nat → Int) (q : Nat) : Prop where
  row : RowF w0 W bk n F
  bx : ∃ y : Int, Blk W q 93 #[.int .u64 y]
  nw : w0.heap.size ≤ q
theorem Rnd.next {W W' : World} {q : Nat} {y : Int} (h : Rnd w0 W bk n F q) (k : Kp (Only q) W W') (b : Blk W' q 93 #[.int .u64 y]) : Rnd w0 W' bk n F q := by
  obtain ⟨cs, hb, hc⟩ := h.row.bx
  obtain ⟨sm, sz0, sz1⟩ := h.row.sz
  have hlt := h.row.lt
  have hq := h.nw
  have hbq : ¬ Only q bk := by
    intro e
    have e' : bk = q := e
    omega
  refine ⟨⟨h.row.kp.step k fun i hi e => ?_, ⟨sm, sz0, sz1.kp k hbq⟩, ⟨cs, hb.kp k hbq, hc⟩, hlt⟩, ⟨y, b⟩, hq⟩
  have e' : i = q := e
  omega
theorem Rnd.swap {W W' : World} {q : Nat} {G : Nat → Int} (h : Rnd w0 W bk n F q) (k : Kp (Only bk) W W') (r : RowF w0 W' bk n G) : Rnd w0 W' bk n G q := by
  obtain ⟨y, b⟩ := h.bx
  have hlt := h.row.lt
  have hq := h.nw
  refine ⟨r, ⟨y, b.kp k ?_⟩, hq⟩
  intro e
  have e' : q = bk := e
  omega
theorem wraps_u64 (n : Int) (h₀ : 0 ≤ n) (h₁ : n < 2 ^ 64) : IntKind.u64.wrap n = n := by rw [IntKind.wrap_u64]; omega
theorem and_low {m : Nat} (hm : m = 16 ∨ m = 32 ∨ m = 64) {y : Nat} (hy : y < 18446744073709551616) {z : Int} (hz : z = (m : Int) - 1) : ∃ p : Nat, p < m ∧ bits .and .u64 (y : Int) z = (p : Int) := by
  subst hz
  rcases hm with rfl | rfl | rfl
  · exact ⟨y % 16, by omega, by have := bits_mask .u64 64 (by decide) wraps_u64 4 (by decide) (y : Int) (by omega) (by omega); simpa using this⟩
  · exact ⟨y % 32, by omega, by have := bits_mask .u64 64 (by decide) wraps_u64 5 (by decide) (y : Int) (by omega) (by omega); simpa using this⟩
  · exact ⟨y % 64, by omega, by have := bits_mask .u64 64 (by decide) wraps_u64 6 (by decide) (y : Int) (by omega) (by omega); simpa using this⟩
set_option maxRecDepth 100000 in
set_option maxHeartbeats 4000000 in
theorem brk_any {a b : Nat} (h : RowF w0 w bk n F) (hab : a + 12 < b) (hb50 : b < a + 50) (hbn : b ≤ n) (hn : n ≤ 1000000) :
    Calls Try.prog 61 #[.slice (some ⟨bk, 0, none⟩) n cap, .int .i64 (a : Int), .int .i64 (b : Int), .func (.func g) bd cb] w fun e w' => e = .returned (.tuple #[]) ∧ ∃ F', RowF w0 w' bk n F' ∧ Pm a b F F' := by
  have mixed : Try.prog.follows .mixedOrders = true := by kernel_rfl
  obtain ⟨l, hl⟩ : ∃ q : Nat, b - a = q := ⟨_, rfl⟩
  have el : (b : Int) - (a : Int) = (l : Int) := by omega
  have wl := wrapI (x := (l : Int)) (by unfold I64; omega)
  have wlu : IntKind.u64.wrap (l : Int) = (l : Int) := by rw [IntKind.wrap_u64]; omega
  have g8 : (8 : Int) ≤ (l : Int) := by omega
  have HNP := hid (fun W => next_pow (k := l) (by omega) (by omega) W)
  have H0 := hid (show Rnd w0 (w.alloc (.cells #[.int .u64 (l : Int)] 93)) bk n F w.heap.size from ⟨h.kp0 ((Kp.refl No w).alloc _), ⟨(l : Int), Blk.new w 93 #[.int .u64 (l : Int)]⟩, h.kp.size⟩)
  obtain ⟨d, hd⟩ : ∃ q : Nat, l / 4 = q := ⟨_, rfl⟩
  have ed : (l : Int) / 4 = (d : Int) := by omega
  have etd : (l : Int).tdiv 4 = (d : Int) := by rw [Int.tdiv_eq_ediv_of_nonneg (by omega)]; omega
  have wd := wrapI (x := (d : Int)) (by unfold I64; omega)
  obtain ⟨d2, hd2⟩ : ∃ qq : Nat, d * 2 = qq := ⟨_, rfl⟩
  have ed2 : (d : Int) * 2 = (d2 : Int) := by omega
  have wd2 := wrapI (x := (d2 : Int)) (by unfold I64; omega)
  obtain ⟨k, hk⟩ : ∃ qq : Nat, a + d2 = qq := ⟨_, rfl⟩
  have ek : (a : Int) + (d2 : Int) = (k : Int) := by omega
  have wk := wrapI (x := (k : Int)) (by unfold I64; omega)
  obtain ⟨kp, hkp⟩ : ∃ qq : Nat, k - 1 = qq := ⟨_, rfl⟩
  have ekp : (k : Int) - 1 = (kp : Int) := by omega
  have wkp := wrapI (x := (kp : Int)) (by unfold I64; omega)
  obtain ⟨kq, hkq⟩ : ∃ qq : Nat, k + 1 = qq := ⟨_, rfl⟩
  have ekq : (k : Int) + 1 = (kq : Int) := by omega
  have wkq := wrapI (x := (kq : Int)) (by unfold I64; omega)
  clear h
  go_enter Try.func61, Try.ntmps61
  go_upto_region 4 with (go_at_call 72; refine (HNP.out _).mono ?_; rintro e w4 ⟨m, rfl, rfl, hm1, hm2, hm3⟩; have HM := hid hm3; clear hm3)
  obtain ⟨m1, hm1'⟩ : ∃ q : Nat, m - 1 = q := ⟨_, rfl⟩
  have em1 : (m : Int) - 1 = (m1 : Int) := by omega
  have wm1 : IntKind.u64.wrap (m1 : Int) = (m1 : Int) := by rw [IntKind.wrap_u64]; omega
  have HAN := hid (fun (y : Nat) (hy : y < 18446744073709551616) => and_low HM.out hy (z := (m1 : Int)) (by omega))
  go_wp2_with fail
  go_loopw [11, 12] (fun u v wr => ∃ (i : Nat) (G : Nat → Int), u = .int .i64 (i : Int) ∧ kp ≤ i ∧ i ≤ kq + 1 ∧ Hid (Rnd w0 wr bk n G w.heap.size) ∧ Hid (Pm a b F G)) (fun u _ _ => kq + 1 - (vNum u).toNat)
  case atStart => exact ⟨kp, F, by go_num, Nat.le_refl _, by omega, H0, hid .rfl'⟩
  case round =>
    clear H0
    obtain ⟨i, G, rfl, hki, hik, HG, HP⟩ := hrel
    have wi := wrapI (x := (i : Int) + 1) (by unfold I64; omega)
    by_cases hle : i ≤ kq
    · have gle : (i : Int) ≤ (kq : Int) := by omega
      have gin : (i : Int) < (n : Int) := by omega
      obtain ⟨y0, hy0⟩ := HG.out.bx
      have HY0 := hid hy0
      clear hy0
      go_upto_region 8 with (go_at_call 73; refine (rnd_any HY0.out).mono ?_; rintro e w5 ⟨y, hy, rfl, hb5, k5⟩; obtain ⟨p, hp, ep⟩ := HAN.out y hy; have HG5 := hid (HG.out.next k5 hb5); clear hb5 k5; have wp := wrapI (x := (p : Int)) (by unfold I64; omega))
      clear HY0 HG
      by_cases hpl : l ≤ p
      · have gpl : (l : Int) ≤ (p : Int) := by omega
        obtain ⟨p1, hp1⟩ : ∃ qq : Nat, p - l = qq := ⟨_, rfl⟩
        have ep1 : (p : Int) - (l : Int) = (p1 : Int) := by omega
        have wp1 := wrapI (x := (p1 : Int)) (by unfold I64; omega)
        obtain ⟨pl, hpl⟩ : ∃ qq : Nat, a + p1 = qq := ⟨_, rfl⟩
        have epl : (a : Int) + (p1 : Int) = (pl : Int) := by omega
        have wpl := wrapI (x := (pl : Int)) (by unfold I64; omega)
        have gpn : (pl : Int) < (n : Int) := by omega
        obtain ⟨x2, hx2⟩ : ∃ x, G i = x := ⟨_, rfl⟩
        obtain ⟨y2, hy2⟩ : ∃ y, G pl = y := ⟨_, rfl⟩
        have Hx2 := hid hx2
        have Hy2 := hid hy2
        clear hx2 hy2
        have HSQ := hid (HG5.out.row.swapq (x := i) (y := pl) (by omega) (by omega))
        rw [Hx2.out, Hy2.out] at HSQ
        have HR6 := hid (HG5.out.swap (((Kp.set1 bk i w5 (.int .i64 y2)).setCell (p := ⟨bk, pl, none⟩) (.inl rfl) (.int .i64 x2)).drew) (HSQ.out.kp0 (Kp.refl No _).drew))
        have cA := HG5.out.row.cell (j := i) (by omega)
        have cB := HG5.out.row.cell (j := pl) (by omega)
        have fA := HG5.out.row.frozen i
        have fB := HG5.out.row.frozen pl
        rw [Hx2.out] at cA
        rw [Hy2.out] at cB
        obtain ⟨uC, cC⟩ := HG5.out.row.c2 (x := i) (y := pl) (by omega) (by omega) (.int .i64 y2)
        clear HSQ
        go_wp2_with fail
        go_big_region_o
        clear cA cB cC fA fB
        generalize World.drew (World.setCell (World.setCell w5 ⟨bk, i, none⟩ (.int .i64 y2)) ⟨bk, pl, none⟩ (.int .i64 x2)) = w6 at HR6 ⊢
        go_wp2_with fail
        go_roundw
        case rel => exact ⟨i + 1, _, by go_num, by omega, by omega, HR6, hid (HP.out.sw (x := i) (y := pl) (by omega) (by omega) (by omega) (by omega))⟩
        case measure => simp [vNum] <;> omega
      · have gpl : ¬ (l : Int) ≤ (p : Int) := by omega
        obtain ⟨pl, hpl⟩ : ∃ qq : Nat, a + p = qq := ⟨_, rfl⟩
        have epl : (a : Int) + (p : Int) = (pl : Int) := by omega
        have wpl := wrapI (x := (pl : Int)) (by unfold I64; omega)
        have gpn : (pl : Int) < (n : Int) := by omega
        obtain ⟨x2, hx2⟩ : ∃ x, G i = x := ⟨_, rfl⟩
        obtain ⟨y2, hy2⟩ : ∃ y, G pl = y := ⟨_, rfl⟩
        have Hx2 := hid hx2
        have Hy2 := hid hy2
        clear hx2 hy2
        have HSQ := hid (HG5.out.row.swapq (x := i) (y := pl) (by omega) (by omega))
        rw [Hx2.out, Hy2.out] at HSQ
        have HR6 := hid (HG5.out.swap (((Kp.set1 bk i w5 (.int .i64 y2)).setCell (p := ⟨bk, pl, none⟩) (.inl rfl) (.int .i64 x2)).drew) (HSQ.out.kp0 (Kp.refl No _).drew))
        have cA := HG5.out.row.cell (j := i) (by omega)
        have cB := HG5.out.row.cell (j := pl) (by omega)
        have fA := HG5.out.row.frozen i
        have fB := HG5.out.row.frozen pl
        rw [Hx2.out] at cA
        rw [Hy2.out] at cB
        obtain ⟨uC, cC⟩ := HG5.out.row.c2 (x := i) (y := pl) (by omega) (by omega) (.int .i64 y2)
        clear HSQ
        go_wp2_with fail
        go_big_region_o
        clear cA cB cC fA fB
        generalize World.drew (World.setCell (World.setCell w5 ⟨bk, i, none⟩ (.int .i64 y2)) ⟨bk, pl, none⟩ (.int .i64 x2)) = w6 at HR6 ⊢
        go_wp2_with fail
        go_roundw
        case rel => exact ⟨i + 1, _, by go_num, by omega, by omega, HR6, hid (HP.out.sw (x := i) (y := pl) (by omega) (by omega) (by omega) (by omega))⟩
        case measure => simp [vNum] <;> omega
    · have gle : ¬ (i : Int) ≤ (kq : Int) := by omega
      go_wp2_with fail
      go_end0
      exact ⟨rfl, G, HG.out.row, HP.out⟩
end
end Go.Proofs.Ytoeeighfjoplhaa

/-
  Contracts of slices.pdqsortCmpFunc and SortFunc at []int, of fewer than fifty, whatever the comparison is.
-/
import Derived.Test.YtoeeighfjoplhaaLoPb
import Derived.Test.YtoeeighfjoplhaaLoPh
import Derived.Test.YtoeeighfjoplhaaLoPc
import Derived.Test.YtoeeighfjoplhaaLoPs
import Derived.Test.YtoeeighfjoplhaaLoZ
import Derived.Deep.CutBlock
import Derived.Deep.DeepCutAuto
namespace Go.Proofs.Ytoeeighfjoplhaa
open Go.RowKit
section
variable {w0 w : World} {bk n cap : Nat} {g : FuncId} {bd cb : Array Value} {V : Int → Prop} {c : Int → Int → Int} {R : Int → Int → Prop} {F : Nat → Int}
/-- A stretch [p, q) of [a, b) is left to be put in order. -/
structure QI (R : Int → Int → Prop) (a b p q : Nat) (F G : Nat → Int) : Prop where
  pm : Pm a b F G
  ah : Ahead R p q G
  k : ∀ H, Pm p q G H → Srt R p q H → Srt R a b H
  ap : a ≤ p
  qb : q ≤ b
  pq : p ≤ q
theorem QI.start {a b : Nat} (hab : a ≤ b) (ha : Ahead R a b F) : QI R a b a b F F := ⟨.rfl', ha, fun _ _ s => s, Nat.le_refl _, Nat.le_refl _, hab⟩
theorem QI.perm {a b p q : Nat} {G H : Nat → Int} (h : QI R a b p q F G) (m : Pm p q G H) : QI R a b p q F H := ⟨h.pm.trans (m.mono h.ap h.qb), h.ah.pm m, fun K e s => h.k K (m.trans e) s, h.ap, h.qb, h.pq⟩
theorem QI.right (hR : Ord R) {a b p q m : Nat} {G H : Nat → Int} (h : QI R a b p q F G) (hp : Part R p q m G) (e : Pm p m G H) (s : Srt R p m H) : QI R a b (m + 1) q F H := by
  have h1 := hp.am
  have h2 := hp.mb
  have h3 := h.ap
  have h4 := h.qb
  refine ⟨h.pm.trans (e.mono h3 (by omega)), ?_, fun K e2 s2 => h.k K ((e.mono (Nat.le_refl _) (by omega)).trans (e2.mono (by omega) (Nat.le_refl _))) (hp.goRight hR e s e2 s2), by omega, h4, by omega⟩
  refine .inr fun k g1 g2 => ?_
  rw [Nat.add_sub_cancel, e.out (k := m) (.inr (Nat.le_refl _)), e.out (k := k) (.inr (by omega))]
  exact hp.right k (by omega) g2
theorem QI.left (hR : Ord R) {a b p q m : Nat} {G H : Nat → Int} (h : QI R a b p q F G) (hp : Part R p q m G) (e : Pm (m + 1) q G H) (s : Srt R (m + 1) q H) : QI R a b p m F H := by
  have h1 := hp.am
  have h2 := hp.mb
  have h3 := h.ap
  have h4 := h.qb
  exact ⟨h.pm.trans (e.mono (by omega) h4), (h.ah.pm (e.mono (by omega) (Nat.le_refl _))).left (by omega), fun K e2 s2 => h.k K ((e.mono (by omega) (Nat.le_refl _)).trans (e2.mono (Nat.le_refl _) (by omega))) (hp.goLeft hR e s e2 s2), h3, by omega, h1⟩
theorem QI.done {a b p q : Nat} {G H : Nat → Int} (h : QI R a b p q F G) (m : Pm p q G H) (s : Srt R p q H) : Pm a b F H ∧ Srt R a b H := ⟨h.pm.trans (m.mono h.ap h.qb), h.k H m s⟩
def bI (b : Bool) : Value := .bool b
set_option maxRecDepth 100000 in
set_option maxHeartbeats 4000000 in
theorem pdq_any (hT : Tot R V c) (hC : Cmp w0 bk g bd cb V c) (hn50 : n < 50) : ∀ (M a b lim : Nat) (F : Nat → Int) (w : World), b - a ≤ M → RowF w0 w bk n F → (∀ k, k < n → V (F k)) → Dis n F → a ≤ b → b ≤ n → lim ≤ 64 → Ahead R a b F →
    Calls Try.prog 51 #[.slice (some ⟨bk, 0, none⟩) n cap, .int .i64 (a : Int), .int .i64 (b : Int), .int .i64 (lim : Int), .func (.func g) bd cb] w fun e w' => e = .returned (.tuple #[]) ∧ ∃ F', RowF w0 w' bk n F' ∧ Pm a b F F' ∧ Srt R a b F' := by
  intro M
  induction M using Nat.strongRecOn with
  | ind M ih =>
  intro a b lim F w hM h hV hd hab hbn hl64 hA
  have IH := hid ih
  have H0 := hid h
  have HT := hid hT
  have HC := hid hC
  have HV := hid hV
  have HD := hid hd
  have HA := hid hA
  have hn : n ≤ 1000000 := by omega
  have mixed : Try.prog.follows .mixedOrders = true := by kernel_rfl
  clear h hT hC hV hd hA ih
  go_enter Try.func51, Try.ntmps51
  go_wp2_with fail
  go_loopw [1, 2, 3, 10, 11] (fun s1 s2 s3 s8 s9 wr => ∃ (p q lm : Nat) (wb wp : Bool) (G : Nat → Int), s1 = .int .i64 (p : Int) ∧ s2 = .int .i64 (q : Int) ∧ s3 = .int .i64 (lm : Int) ∧ s8 = .bool wb ∧ s9 = .bool wp ∧ lm ≤ 64 ∧ Hid (RowF w0 wr bk n G) ∧ Hid (QI R a b p q F G)) (fun s1 s2 _ _ _ _ => (vNum s2).toNat - (vNum s1).toNat)
  case atStart => exact ⟨a, b, lim, true, true, F, rfl, rfl, rfl, rfl, rfl, hl64, H0, hid (QI.start hab HA.out)⟩
  case round =>
    clear H0 HA
    obtain ⟨p, q, lm, wb, wp, G, rfl, rfl, rfl, rfl, rfl, hlm, HG, HQ⟩ := hrel
    have h1 := HQ.out.ap
    have h2 := HQ.out.qb
    have h3 := HQ.out.pq
    have HVG := hid (HQ.out.pm.vals HV.out hbn)
    have HDG := hid (HQ.out.pm.dis hbn HD.out)
    obtain ⟨l, hl⟩ : ∃ qq : Nat, q - p = qq := ⟨_, rfl⟩
    have el : (q : Int) - (p : Int) = (l : Int) := by omega
    have wl := wrapI (x := (l : Int)) (by unfold I64; omega)
    by_cases h12 : l ≤ 12
    · have g12 : (l : Int) ≤ 12 := by omega
      go_wp2_with (go_at_call 59; refine (insertion_any HT.out.ord HC.out HG.out HVG.out (a := p) (b := q) (HT.out.says HVG.out HDG.out (by omega)) h3 (by omega) hn).mono ?_; rintro e w4 ⟨rfl, F4, k4, p4, s4⟩; have K4 := hid k4; have P4 := hid p4; have S4 := hid s4; clear k4 p4 s4)
      (try simp only [Exit.inBlock, Exit.then])
      refine bodyPost_ret (results_none rfl _ _ _) rfl ?_
      exact ⟨rfl, F4, K4.out, HQ.out.done P4.out S4.out⟩
    · have g12 : ¬ (l : Int) ≤ 12 := by omega
      by_cases hl0 : lm = 0
      · subst hl0
        go_wp2_with (go_at_call 60; refine (heap_any (cap := cap) HT.out HC.out HG.out HVG.out HDG.out (a := p) (b := q) (by omega) (by omega) hn).mono ?_; rintro e w4 ⟨rfl, F4, k4, p4, s4⟩; have K4 := hid k4; have P4 := hid p4; have S4 := hid s4; clear k4 p4 s4)
        (try simp only [Exit.inBlock, Exit.then])
        refine bodyPost_ret (results_none rfl _ _ _) rfl ?_
        exact ⟨rfl, F4, K4.out, HQ.out.done P4.out S4.out⟩
      · have gl0 : ((lm : Int) == 0) = false := by rw [beq_eq_false_iff_ne]; omega
        have gl0' : ¬ (lm : Int) = 0 := by omega
        obtain ⟨lm1, hlm1⟩ : ∃ r : Nat, lm - 1 = r := ⟨_, rfl⟩
        have elm1 : (lm : Int) - 1 = (lm1 : Int) := by omega
        have wlm1 := wrapI (x := (lm1 : Int)) (by unfold I64; omega)
        go_upto_if 39 with fail
        go_cut [3] from 21 to 147 (fun s3 wx => ∃ (l2 : Nat) (G2 : Nat → Int), s3 = .int .i64 (l2 : Int) ∧ l2 ≤ 64 ∧ Hid (RowF w0 wx bk n G2) ∧ Hid (Pm p q G G2))
        case first =>
          cases wb with
          | true =>
            go_wp2_with fail
            go_meet
            exact ⟨lm, G, rfl, hlm, HG, hid .rfl'⟩
          | false =>
            go_wp2_with (go_at_call 61; refine (brk_any (cap := cap) HG.out (a := p) (b := q) (by omega) (by omega) (by omega) hn).mono ?_; rintro e w4 ⟨rfl, F4, k4, p4⟩; have K4 := hid k4; have P4 := hid p4; clear k4 p4)
            go_meet
            exact ⟨lm1, F4, by go_num, by omega, K4, P4⟩
        case rest =>
          obtain ⟨l2, G1, rfl, hl2, HG1, HP1⟩ := hcut
          have HQ1 := hid (HQ.out.perm HP1.out)
          clear HQ HP1 HG
          have HVG1 := hid (HQ1.out.pm.vals HV.out hbn)
          have HDG1 := hid (HQ1.out.pm.dis hbn HD.out)
          clear HVG HDG
          go_upto_if 56 with (go_at_call 62; refine (choose_any (cap := cap) HC.out HG1.out HVG1.out (a := p) (b := q) (by omega) (by omega) (by omega) hn).mono ?_; rintro e w4 ⟨m, ht, rfl, hm1, hm2, hht, k4⟩; have K4 := hid k4; have HHT := hid hht; clear k4 hht)
          go_cut [13, 14] from 21 to 147 (fun s13 s14 wx => ∃ (pv : Nat) (h5 : Int) (G2 : Nat → Int), s13 = .int .i64 (pv : Int) ∧ s14 = .int .i64 h5 ∧ p ≤ pv ∧ pv < q ∧ Hid (h5 = 0 ∨ h5 = 1) ∧ Hid (RowF w0 wx bk n G2) ∧ Hid (Pm p q G1 G2))
          case first =>
            rcases HHT.out with rfl | rfl | rfl
            · go_wp2_with fail
              go_meet
              exact ⟨m, 0, G1, rfl, rfl, hm1, hm2, hid (.inl rfl), K4, hid .rfl'⟩
            · go_wp2_with fail
              go_meet
              exact ⟨m, 1, G1, rfl, rfl, hm1, hm2, hid (.inr rfl), K4, hid .rfl'⟩
            · obtain ⟨q1, hq1⟩ : ∃ r : Nat, q - 1 = r := ⟨_, rfl⟩
              have eq1 : (q : Int) - 1 = (q1 : Int) := by omega
              have wq1 := wrapI (x := (q1 : Int)) (by unfold I64; omega)
              obtain ⟨mp, hmp⟩ : ∃ r : Nat, m - p = r := ⟨_, rfl⟩
              have emp : (m : Int) - (p : Int) = (mp : Int) := by omega
              have wmp := wrapI (x := (mp : Int)) (by unfold I64; omega)
              obtain ⟨pv, hpv⟩ : ∃ r : Nat, q1 - mp = r := ⟨_, rfl⟩
              have epv : (q1 : Int) - (mp : Int) = (pv : Int) := by omega
              have wpv := wrapI (x := (pv : Int)) (by unfold I64; omega)
              go_wp2_with (go_at_call 63; refine (reverse_any (cap := cap) K4.out (a := p) (b := q) (by omega) (by omega) hn).mono ?_; rintro e w5 ⟨rfl, F5, k5, p5⟩; have K5 := hid k5; have P5 := hid p5; clear k5 p5)
              go_meet
              exact ⟨pv, 1, F5, by go_num, rfl, by omega, by omega, hid (.inr rfl), K5, P5⟩
          case rest =>
            obtain ⟨pv, h5, G2, rfl, rfl, hpp, hpq, H5, HG2, HP2⟩ := hcut
            clear HHT K4
            have HQ2 := hid (HQ1.out.perm HP2.out)
            clear HQ1 HP2 HG1
            have HVG2 := hid (HQ2.out.pm.vals HV.out hbn)
            have HDG2 := hid (HQ2.out.pm.dis hbn HD.out)
            clear HVG1 HDG1
            go_upto_region 15 with fail
            go_cut [75] from 21 to 147 (fun s wx => ∃ t : Bool, s = .bool t ∧ Hid (RowF w0 wx bk n G2))
            case first =>
              rcases H5.out with rfl | rfl <;> cases wb <;> cases wp <;> (go_wp2_with fail; go_meet; exact ⟨_, rfl, HG2⟩)
            case rest =>
              obtain ⟨t, rfl, HG3⟩ := hcut
              clear HG2
              go_upto_if 75 with fail
              go_cut [] from 21 to 147 (fun wx => Hid (RowF w0 wx bk n G2))
              case first =>
                cases t with
                | false =>
                  go_wp2_with fail
                  go_meet
                  exact HG3
                | true =>
                  go_upto_if 80 with (go_at_call 64; refine (partial_any (cap := cap) HT.out HC.out HG3.out HVG2.out HDG2.out (a := p) (b := q) (by omega) (by omega) (by omega) hn).mono ?_; rintro e w5 ⟨t2, rfl, k5, s5⟩; have K5 := hid k5; have S5 := hid s5; clear k5 s5)
                  cases t2 with
                  | false =>
                    go_wp2_with fail
                    go_meet
                    exact K5
                  | true =>
                    have HDN := hid (HQ2.out.done .rfl' (S5.out rfl))
                    go_wp2_with fail
                    (try simp only [Exit.inBlock, Exit.then])
                    refine bodyPost_ret (results_none rfl _ _ _) rfl ?_
                    exact ⟨rfl, G2, K5.out, HDN.out⟩
              case rest =>
                have HG2 := hcut
                clear hcut HG3
                go_upto_region 17 with fail
                go_cut [97] from 21 to 147 (fun s wx => s = .bool false ∧ Hid (RowF w0 wx bk n G2))
                case first =>
                  by_cases hp0 : p = 0
                  · subst hp0
                    go_big_region_o
                    go_wp2_with fail
                    go_meet
                    exact ⟨rfl, hid (HG2.out.kp0 (Kp.refl No _).drew)⟩
                  · have gp0 : (0 : Int) < (p : Int) := by omega
                    have gp0n : 0 < p := by omega
                    obtain ⟨pp, hpp1⟩ : ∃ r : Nat, p - 1 = r := ⟨_, rfl⟩
                    have epp : (p : Int) - 1 = (pp : Int) := by omega
                    have wpp := wrapI (x := (pp : Int)) (by unfold I64; omega)
                    have gppn : (pp : Int) < (n : Int) := by omega
                    have gpvn : (pv : Int) < (n : Int) := by omega
                    obtain ⟨x, hx⟩ : ∃ x, G2 pp = x := ⟨_, rfl⟩
                    obtain ⟨y, hy⟩ : ∃ y, G2 pv = y := ⟨_, rfl⟩
                    have Hx := hid hx
                    have Hy := hid hy
                    clear hx hy
                    have HXY := hid (show V x ∧ V y from ⟨by rw [← Hx.out]; exact HVG2.out _ (by omega), by rw [← Hy.out]; exact HVG2.out _ (by omega)⟩)
                    have hlt : c x y < 0 := by
                      refine (HT.out.lt HXY.out.1 HXY.out.2).2 ?_
                      rcases HQ2.out.ah with e | e
                      · omega
                      · have := e pv hpp hpq
                        rwa [hpp1, Hx.out, Hy.out] at this
                    have dxy : decide (c x y < 0) = true := decide_eq_true hlt
                    clear hlt
                    refine region_all (fun W => RowF w0 W bk n G2) mixed (by kernel_rfl) (HG2.out.kp0 (Kp.refl No _).drew) ?_
                    repeat ((first | ((with_reducible refine cl_val (v := ?_) ?_ ?_ ?_); rotate_left; (focus (go_simp; done)); (focus (intro w' hw; obtain ⟨c1, c2⟩ := And.intro (hw.cell (j := pp) (by omega)) (hw.cell (j := pv) (by omega)); rw [Hx.out] at c1; rw [Hy.out] at c2; go_simp; (try with_reducible rfl); done))) | ((with_reducible refine cl_skip ?_ ?_); (focus (first | (go_simp; done) | exact unwanted rfl rfl)))); simp only [Act.put, List.setIfInBounds_toArray, List.set_cons_zero, List.set_cons_succ])
                    refine cl_call (v := .int .i64 (c x y)) (by first | rfl | go_simp) (fun w' hw => by first | (go_simp; exact HC.out.enters _ _) | exact HC.out.enters _ _) (fun w' hw => (HC.out.says _ hw.kp x y HXY.out.1 HXY.out.2).mono fun e w'' h => ⟨h.1, hw.kp0 h.2⟩) ?_
                    simp only [Act.put, List.setIfInBounds_toArray, List.set_cons_zero, List.set_cons_succ]
                    repeat ((first | ((with_reducible refine cl_val (v := ?_) ?_ ?_ ?_); rotate_left; (focus (go_simp; done)); (focus (intro w' hw; obtain ⟨c1, c2⟩ := And.intro (hw.cell (j := pp) (by omega)) (hw.cell (j := pv) (by omega)); rw [Hx.out] at c1; rw [Hy.out] at c2; go_simp; (try with_reducible rfl); done))) | ((with_reducible refine cl_skip ?_ ?_); (focus (first | (go_simp; done) | exact unwanted rfl rfl)))); simp only [Act.put, List.setIfInBounds_toArray, List.set_cons_zero, List.set_cons_succ])
                    refine cl_nil fun w4 hw => ?_
                    have HG4 := hid hw
                    clear hw
                    go_wp2_with fail
                    go_meet
                    exact ⟨rfl, HG4⟩
                case rest =>
                  obtain ⟨rfl, HG4⟩ := hcut
                  clear HG2
                  go_upto_region 24 with (go_at_call 66; refine (partition_any (cap := cap) HT.out HC.out HG4.out HVG2.out HDG2.out (a := p) (b := q) (pv := pv) hpp hpq (by omega) hn).mono ?_; rintro e w5 ⟨m, t5, rfl, F5, k5, p5, r5⟩; have K5 := hid k5; have P5 := hid p5; have R5 := hid r5; clear k5 p5 r5; have z1 := R5.out.am; have z2 := R5.out.mb; (obtain ⟨ll, hll⟩ : ∃ r : Nat, m - p = r := ⟨_, rfl⟩); (have ell : (m : Int) - (p : Int) = (ll : Int) := by omega); (have wll := wrapI (x := (ll : Int)) (by unfold I64; omega)); (obtain ⟨rl, hrl⟩ : ∃ r : Nat, q - m = r := ⟨_, rfl⟩); (have erl : (q : Int) - (m : Int) = (rl : Int) := by omega); (have wrl := wrapI (x := (rl : Int)) (by unfold I64; omega)); (obtain ⟨l8, hl8⟩ : ∃ r : Nat, l / 8 = r := ⟨_, rfl⟩); (have el8 : (l : Int) / 8 = (l8 : Int) := by omega); (have etl8 : (l : Int).tdiv 8 = (l8 : Int) := by rw [Int.tdiv_eq_ediv_of_nonneg (by omega)]; omega); (have wl8 := wrapI (x := (l8 : Int)) (by unfold I64; omega)); (have wm1 := wrapI (x := (m : Int) + 1) (by unfold I64; omega)))
                  have HQ5 := hid (HQ2.out.perm P5.out)
                  have HV5 := hid (HQ5.out.pm.vals HV.out hbn)
                  have HD5 := hid (HQ5.out.pm.dis hbn HD.out)
                  clear HQ2 HVG2 HDG2 P5
                  by_cases hlr : ll < rl
                  · have glr : (ll : Int) < (rl : Int) := by omega
                    have HS := hid (IH.out (m - p) (by omega) p m l2 F5 w5 (Nat.le_refl _) K5.out HV5.out HD5.out z1 (by omega) hl2 (HQ5.out.ah.left (by omega)))
                    go_wp2_with (go_at_call 51; refine HS.out.mono ?_; rintro e w6 ⟨rfl, F6, k6, p6, s6⟩; have K6 := hid k6; have P6 := hid p6; have S6 := hid s6; clear k6 p6 s6)
                    go_roundw
                    case rel => exact ⟨m + 1, q, l2, _, _, F6, by go_num, rfl, rfl, rfl, rfl, hl2, K6, hid (HQ5.out.right HT.out.ord R5.out P6.out S6.out)⟩
                    case measure => simp [vNum] <;> omega
                  · have glr : ¬ (ll : Int) < (rl : Int) := by omega
                    have em1 : (m : Int) + 1 = ((m + 1 : Nat) : Int) := by omega
                    have HS := hid (IH.out (q - (m + 1)) (by omega) (m + 1) q l2 F5 w5 (Nat.le_refl _) K5.out HV5.out HD5.out (by omega) (by omega) hl2 R5.out.ahead)
                    rw [← em1] at HS
                    clear em1
                    go_wp2_with (go_at_call 51; refine HS.out.mono ?_; rintro e w6 ⟨rfl, F6, k6, p6, s6⟩; have K6 := hid k6; have P6 := hid p6; have S6 := hid s6; clear k6 p6 s6)
                    go_roundw
                    case rel => exact ⟨p, m, l2, _, _, F6, rfl, by go_num, rfl, rfl, rfl, hl2, K6, hid (HQ5.out.left HT.out.ord R5.out P6.out S6.out)⟩
                    case measure => simp [vNum] <;> omega
set_option maxRecDepth 100000 in
set_option maxHeartbeats 4000000 in
theorem sort_any (hT : Tot R V c) (hC : Cmp w0 bk g bd cb V c) (h : RowF w0 w bk n F) (hV : ∀ k, k < n → V (F k)) (hd : Dis n F) (hn : n < 50) :
    Calls Try.prog 40 #[.slice (some ⟨bk, 0, none⟩) n cap, .func (.func g) bd cb] w fun e w' => e = .returned (.tuple #[]) ∧ ∃ F', RowF w0 w' bk n F' ∧ Pm 0 n F F' ∧ Srt R 0 n F' := by
  by_cases h12 : n ≤ 12
  · exact sort_small hT.ord hC h hV (hT.says hV hd (Nat.le_refl _)) h12
  · obtain ⟨r, hr, hr2⟩ : ∃ r : Nat, (if n < 16 then (4 : Int) else if n < 32 then 5 else 6) = (r : Int) ∧ r ≤ 64 := by
      by_cases h1 : n < 16
      · exact ⟨4, by rw [if_pos h1]; rfl, by omega⟩
      · by_cases h2 : n < 32
        · exact ⟨5, by rw [if_neg h1, if_pos h2]; rfl, by omega⟩
        · exact ⟨6, by rw [if_neg h1, if_neg h2]; rfl, by omega⟩
    have HL := hid (len_of (k := n) (by omega) hn w)
    rw [hr] at HL
    have HX := hid (pdq_any (cap := cap) hT hC hn n 0 n r F w (by omega) h hV hd (Nat.zero_le _) (Nat.le_refl _) hr2 (.inl rfl))
    have hwn : IntKind.u64.wrap (n : Int) = (n : Int) := by rw [IntKind.wrap_u64]; omega
    clear hT hC h hV hd hr
    go_enter Try.func40, Try.ntmps40
    go_wp2_with (first
      | (go_at_call 52; refine HL.out.mono ?_; rintro e w4 ⟨rfl, rfl⟩)
      | (go_at_call 51; refine HX.out.mono ?_; rintro e w4 ⟨rfl, k4⟩))
    go_end0
    exact ⟨rfl, k4⟩
end
end Go.Proofs.Ytoeeighfjoplhaa

/-
  Contract of slices.symMergeCmpFunc at []int, whatever the comparison is: whole.
-/
import Derived.Test.YtoeeighfjoplhaaLoSm
namespace Go.Proofs.Ytoeeighfjoplhaa
open Go.RowKit
section
variable {w0 w : World} {bk n cap : Nat} {g : FuncId} {bd cb : Array Value} {V : Int → Prop} {c : Int → Int → Int} {R : Int → Int → Prop} {F : Nat → Int}
/-- How far the search of a merge has come. -/
structure SI (R : Int → Int → Prop) (F : Nat → Int) (N s0 r0 s r : Nat) : Prop where
  s0s : s0 ≤ s
  sr : s ≤ r
  rr0 : r ≤ r0
  lo : s = s0 ∨ (s0 < s ∧ R (F (s - 1)) (F (N - s)))
  hi : r = r0 ∨ (r < r0 ∧ R (F (N - 1 - r)) (F r))
set_option maxRecDepth 100000 in
set_option maxHeartbeats 4000000 in
theorem symm_any (hR : Ord R) (hC : Cmp w0 bk g bd cb V c) (hn : n ≤ 1000000) : ∀ (M a m b : Nat) (F : Nat → Int) (w : World), b - a ≤ M → RowF w0 w bk n F → (∀ k, k < n → V (F k)) → a < m → m < b → b ≤ n → Srt R a m F → Srt R m b F → Crs c R a m b F →
    Calls Try.prog 76 #[.slice (some ⟨bk, 0, none⟩) n cap, .int .i64 (a : Int), .int .i64 (m : Int), .int .i64 (b : Int), .func (.func g) bd cb] w fun e w' => e = .returned (.tuple #[]) ∧ ∃ F', RowF w0 w' bk n F' ∧ Pm a b F F' ∧ Srt R a b F' := by
  intro M
  induction M using Nat.strongRecOn with
  | ind M ih =>
  intro a m b F w hM h hV ham hmb hbn hl hr hx
  by_cases hm1 : m = a + 1
  · subst hm1
    have := one_left_any (cap := cap) hR hC h hV (a := a) (b := b) hmb hbn hn hr hx
    simpa using this
  by_cases hb1 : b = m + 1
  · subst hb1
    have := one_right_any (cap := cap) hR hC h hV (a := a) (m := m) (by omega) hbn hn hl hx
    simpa using this
  have IH := hid ih
  have H0 := hid h
  have HR := hid hR
  have HC := hid hC
  have HV := hid hV
  have HL := hid hl
  have HRR := hid hr
  have HX := hid hx
  have mixed : Try.prog.follows .mixedOrders = true := by kernel_rfl
  clear h hR hC hV hl hr hx ih
  obtain ⟨d, hd⟩ : ∃ qq : Nat, m - a = qq := ⟨_, rfl⟩
  have ed : (m : Int) - (a : Int) = (d : Int) := by omega
  have wd := wrapI (x := (d : Int)) (by unfold I64; omega)
  obtain ⟨d2, hd2⟩ : ∃ qq : Nat, b - m = qq := ⟨_, rfl⟩
  have ed2 : (b : Int) - (m : Int) = (d2 : Int) := by omega
  have wd2 := wrapI (x := (d2 : Int)) (by unfold I64; omega)
  obtain ⟨mid, hmid⟩ : ∃ qq : Nat, (a + b) / 2 = qq := ⟨_, rfl⟩
  have emid : ((a : Int) + (b : Int)) / 2 = (mid : Int) := by omega
  have wmid := wrapI (x := (mid : Int)) (by unfold I64; omega)
  obtain ⟨N, hN⟩ : ∃ qq : Nat, mid + m = qq := ⟨_, rfl⟩
  have eN : (mid : Int) + (m : Int) = (N : Int) := by omega
  have wN := wrapI (x := (N : Int)) (by unfold I64; omega)
  obtain ⟨p, hp⟩ : ∃ qq : Nat, N - 1 = qq := ⟨_, rfl⟩
  have ep : (N : Int) - 1 = (p : Int) := by omega
  have wp := wrapI (x := (p : Int)) (by unfold I64; omega)
  have gd : ((d : Int) == 1) = false := by rw [beq_eq_false_iff_ne]; omega
  have gd' : ¬ (d : Int) = 1 := by omega
  have gdn : ¬ d = 1 := by omega
  have gd2 : ((d2 : Int) == 1) = false := by rw [beq_eq_false_iff_ne]; omega
  have gd2' : ¬ (d2 : Int) = 1 := by omega
  have gd2n : ¬ d2 = 1 := by omega
  obtain ⟨s0, hs0⟩ : ∃ q : Nat, (if mid < m then N - b else a) = q := ⟨_, rfl⟩
  obtain ⟨r0, hr0⟩ : ∃ q : Nat, (if mid < m then mid else m) = q := ⟨_, rfl⟩
  have HSR := hid (show a ≤ s0 ∧ s0 ≤ r0 ∧ r0 ≤ m ∧ r0 ≤ mid ∧ (s0 = a ∨ N - s0 = b) ∧ (r0 = m ∨ r0 = mid) ∧ mid ≤ b ∧ a ≤ mid ∧ N - s0 ≤ b from by
    rw [← hs0, ← hr0]
    by_cases hmm : mid < m
    · rw [if_pos hmm, if_pos hmm]; omega
    · rw [if_neg hmm, if_neg hmm]; omega)
  obtain ⟨f1, f2, f3, f4, f5, f6, f7, f8, f9⟩ := HSR.out
  clear HSR
  go_enter Try.func76, Try.ntmps76
  go_upto_if 140 with fail
  go_cut [20, 21] (fun s20 s21 wx => s20 = .int .i64 (s0 : Int) ∧ s21 = .int .i64 (r0 : Int) ∧ wx = w)
  case first =>
    by_cases hgt : mid < m
    · rw [if_pos hgt] at hs0 hr0
      have ggt : (mid : Int) < (m : Int) := by omega
      obtain ⟨nb, hnb⟩ : ∃ qq : Nat, N - b = qq := ⟨_, rfl⟩
      have enb : (N : Int) - (b : Int) = (nb : Int) := by omega
      have wnb := wrapI (x := (nb : Int)) (by unfold I64; omega)
      have es0 := hid (show (nb : Int) = (s0 : Int) by omega)
      have er0 := hid (show (mid : Int) = (r0 : Int) by omega)
      clear hs0 hr0
      go_wp2_with fail
      go_meet
      exact ⟨by rw [es0.out], by rw [er0.out], rfl⟩
    · rw [if_neg hgt] at hs0 hr0
      have ggt : ¬ (mid : Int) < (m : Int) := by omega
      have es0 := hid (show (a : Int) = (s0 : Int) by omega)
      have er0 := hid (show (m : Int) = (r0 : Int) by omega)
      clear hs0 hr0
      go_wp2_with fail
      go_meet
      exact ⟨by rw [es0.out], by rw [er0.out], rfl⟩
  case rest =>
    obtain ⟨rfl, rfl, rfl⟩ := hcut
    clear hs0 hr0
    as_aux_lemma =>
    go_upto_block 8 with fail
    go_cut [20, 21] (fun s20 s21 wx => ∃ s : Nat, s20 = .int .i64 (s : Int) ∧ s21 = .int .i64 (s : Int) ∧ Hid (RowF w0 wx bk n F) ∧ Hid (SI R F N s0 r0 s s))
    case first =>
      go_wp2_with fail
      go_loopw [20, 21] (fun u v wr => ∃ i j : Nat, u = .int .i64 (i : Int) ∧ v = .int .i64 (j : Int) ∧ Hid (RowF w0 wr bk n F) ∧ Hid (SI R F N s0 r0 i j)) (fun u v _ => (vNum v).toNat - (vNum u).toNat)
      case atStart => exact ⟨s0, r0, rfl, rfl, H0, hid ⟨Nat.le_refl _, f2, Nat.le_refl _, .inl rfl, .inl rfl⟩⟩
      case round =>
        clear H0
        obtain ⟨i, j, rfl, rfl, HG, HI⟩ := hrel
        have hi := HI.out.s0s
        have hij := HI.out.sr
        have hj := HI.out.rr0
        by_cases hlt : i < j
        · have glt : (i : Int) < (j : Int) := by omega
          obtain ⟨h, hh⟩ : ∃ r : Nat, (i + j) / 2 = r := ⟨_, rfl⟩
          have eh : ((i : Int) + (j : Int)) / 2 = (h : Int) := by omega
          have wh := wrapI (x := (h : Int)) (by unfold I64; omega)
          have wh1 := wrapI (x := (h : Int) + 1) (by unfold I64; omega)
          obtain ⟨ph, hph⟩ : ∃ r : Nat, p - h = r := ⟨_, rfl⟩
          have eph : (p : Int) - (h : Int) = (ph : Int) := by omega
          have wph := wrapI (x := (ph : Int)) (by unfold I64; omega)
          have ghn : (h : Int) < (n : Int) := by omega
          have gphn : (ph : Int) < (n : Int) := by omega
          obtain ⟨x, hx⟩ : ∃ x, F ph = x := ⟨_, rfl⟩
          obtain ⟨y, hy⟩ : ∃ y, F h = y := ⟨_, rfl⟩
          have Hx := hid hx
          have Hy := hid hy
          clear hx hy
          have HXY := hid (show V x ∧ V y from ⟨by rw [← Hx.out]; exact HV.out _ (by omega), by rw [← Hy.out]; exact HV.out _ (by omega)⟩)
          have HSY := hid (HX.out h ph (by omega) (by omega) (by omega) (by omega))
          rw [Hx.out, Hy.out] at HSY
          rcases HSY.out with ⟨hc, hr⟩ | ⟨hc, hr⟩
          · have HN := hid (show SI R F N s0 r0 i h from ⟨hi, by omega, by omega, HI.out.lo, .inr ⟨by omega, by rw [show N - 1 - h = ph from by omega, Hx.out, Hy.out]; exact hr⟩⟩)
            have dxy : decide (c x y < 0) = true := decide_eq_true hc
            clear hc hr
            go_upto_region 35 with fail
            refine region_all (fun W => RowF w0 W bk n F) mixed (by kernel_rfl) (HG.out.kp0 (Kp.refl No _).drew) ?_
            repeat ((first | ((with_reducible refine cl_val (v := ?_) ?_ ?_ ?_); rotate_left; (focus (go_simp; done)); (focus (intro w' hw; obtain ⟨c1, c2⟩ := And.intro (hw.cell (j := ph) (by omega)) (hw.cell (j := h) (by omega)); rw [Hx.out] at c1; rw [Hy.out] at c2; go_simp; (try with_reducible rfl); done))) | ((with_reducible refine cl_skip ?_ ?_); (focus (first | (go_simp; done) | exact unwanted rfl rfl)))); simp only [Act.put, List.setIfInBounds_toArray, List.set_cons_zero, List.set_cons_succ])
            refine cl_call (v := .int .i64 (c x y)) (by first | rfl | go_simp) (fun w' hw => by first | (go_simp; exact HC.out.enters _ _) | exact HC.out.enters _ _) (fun w' hw => (HC.out.says _ hw.kp x y HXY.out.1 HXY.out.2).mono fun e w'' h => ⟨h.1, hw.kp0 h.2⟩) ?_
            simp only [Act.put, List.setIfInBounds_toArray, List.set_cons_zero, List.set_cons_succ]
            repeat ((first | ((with_reducible refine cl_val (v := ?_) ?_ ?_ ?_); rotate_left; (focus (go_simp; done)); (focus (intro w' hw; obtain ⟨c1, c2⟩ := And.intro (hw.cell (j := ph) (by omega)) (hw.cell (j := h) (by omega)); rw [Hx.out] at c1; rw [Hy.out] at c2; go_simp; (try with_reducible rfl); done))) | ((with_reducible refine cl_skip ?_ ?_); (focus (first | (go_simp; done) | exact unwanted rfl rfl)))); simp only [Act.put, List.setIfInBounds_toArray, List.set_cons_zero, List.set_cons_succ])
            refine cl_nil fun w4 hw => ?_
            have HG4 := hid hw
            clear hw
            go_wp2_with fail
            go_roundw
            case rel => exact ⟨i, h, rfl, by go_num, HG4, HN⟩
            case measure => simp [vNum] <;> omega
          · have HN := hid (show SI R F N s0 r0 (h + 1) j from ⟨by omega, by omega, hj, .inr ⟨by omega, by rw [show h + 1 - 1 = h from by omega, show N - (h + 1) = ph from by omega, Hx.out, Hy.out]; exact hr⟩, HI.out.hi⟩)
            have dxy : decide (c x y < 0) = false := decide_eq_false hc
            clear hc hr
            go_upto_region 35 with fail
            refine region_all (fun W => RowF w0 W bk n F) mixed (by kernel_rfl) (HG.out.kp0 (Kp.refl No _).drew) ?_
            repeat ((first | ((with_reducible refine cl_val (v := ?_) ?_ ?_ ?_); rotate_left; (focus (go_simp; done)); (focus (intro w' hw; obtain ⟨c1, c2⟩ := And.intro (hw.cell (j := ph) (by omega)) (hw.cell (j := h) (by omega)); rw [Hx.out] at c1; rw [Hy.out] at c2; go_simp; (try with_reducible rfl); done))) | ((with_reducible refine cl_skip ?_ ?_); (focus (first | (go_simp; done) | exact unwanted rfl rfl)))); simp only [Act.put, List.setIfInBounds_toArray, List.set_cons_zero, List.set_cons_succ])
            refine cl_call (v := .int .i64 (c x y)) (by first | rfl | go_simp) (fun w' hw => by first | (go_simp; exact HC.out.enters _ _) | exact HC.out.enters _ _) (fun w' hw => (HC.out.says _ hw.kp x y HXY.out.1 HXY.out.2).mono fun e w'' h => ⟨h.1, hw.kp0 h.2⟩) ?_
            simp only [Act.put, List.setIfInBounds_toArray, List.set_cons_zero, List.set_cons_succ]
            repeat ((first | ((with_reducible refine cl_val (v := ?_) ?_ ?_ ?_); rotate_left; (focus (go_simp; done)); (focus (intro w' hw; obtain ⟨c1, c2⟩ := And.intro (hw.cell (j := ph) (by omega)) (hw.cell (j := h) (by omega)); rw [Hx.out] at c1; rw [Hy.out] at c2; go_simp; (try with_reducible rfl); done))) | ((with_reducible refine cl_skip ?_ ?_); (focus (first | (go_simp; done) | exact unwanted rfl rfl)))); simp only [Act.put, List.setIfInBounds_toArray, List.set_cons_zero, List.set_cons_succ])
            refine cl_nil fun w4 hw => ?_
            have HG4 := hid hw
            clear hw
            go_wp2_with fail
            go_roundw
            case rel => exact ⟨h + 1, j, by go_num, rfl, HG4, HN⟩
            case measure => simp [vNum] <;> omega
        · have glt : ¬ (i : Int) < (j : Int) := by omega
          obtain rfl : j = i := by omega
          go_wp2_with fail
          go_meet
          exact ⟨j, rfl, rfl, HG, HI⟩
    case rest =>
      obtain ⟨s, rfl, rfl, HG, HI⟩ := hcut
      clear H0
      have k1 := HI.out.s0s
      have k2 := HI.out.rr0
      obtain ⟨e, he⟩ : ∃ qq : Nat, N - s = qq := ⟨_, rfl⟩
      have ee : (N : Int) - (s : Int) = (e : Int) := by omega
      have we := wrapI (x := (e : Int)) (by unfold I64; omega)
      have HM := hid (sym_cross (R := R) (f := F) (a := a) (m := m) (b := b) (s := s) (e := e) (mid := mid) HR.out HL.out HRR.out (by omega) (by omega) (by omega) (by omega) (by omega) (by omega)
        (fun g1 g2 => by
          rcases HI.out.lo with q | ⟨_, q⟩
          · omega
          · rwa [he] at q)
        (fun g1 g2 => by
          rcases HI.out.hi with q | ⟨_, q⟩
          · omega
          · rwa [show N - 1 - s = e - 1 from by omega] at q))
      have HXL := hid (HX.out.rotL (s := s) (e := e) (mid := mid) (by omega) (by omega) (by omega) (by omega))
      have HXR := hid (HX.out.rotR (s := s) (e := e) (mid := mid) (by omega) (by omega) (by omega) (by omega))
      clear HI HX HL HRR
      as_aux_lemma =>
      go_upto_region 39 with fail
      go_cut [185] (fun v wx => ∃ t : Bool, v = .bool t ∧ Hid (t = true → s < m ∧ m < e) ∧ Hid (t = false → s = m ∨ e = m) ∧ Hid (RowF w0 wx bk n F))
      case first =>
        by_cases q1 : s < m
        · have g1 : (s : Int) < (m : Int) := by omega
          by_cases q2 : m < e
          · have g2 : (m : Int) < (e : Int) := by omega
            go_wp2_with fail
            go_meet
            exact ⟨true, rfl, hid fun _ => ⟨q1, q2⟩, hid (fun h => by cases h), HG⟩
          · have g2 : ¬ (m : Int) < (e : Int) := by omega
            go_wp2_with fail
            go_meet
            exact ⟨false, rfl, hid (fun h => by cases h), hid fun _ => by omega, HG⟩
        · have g1 : ¬ (s : Int) < (m : Int) := by omega
          go_wp2_with fail
          go_meet
          exact ⟨false, rfl, hid (fun h => by cases h), hid fun _ => by omega, HG⟩
      case rest =>
        obtain ⟨t, rfl, HT1, HT2, HG1⟩ := hcut
        clear HG
        go_upto_if 185 with fail
        go_cut [] (fun wx => Hid (RowF w0 wx bk n (rotF s m e F)) ∧ Hid (Pm a b F (rotF s m e F)))
        case first =>
          cases t with
          | true =>
            have q := HT1.out rfl
            have HRT := hid (rotate_any (cap := cap) (g := g) (bd := bd) (cb := cb) HG1.out (a := s) (m := m) (b := e) q.1 q.2 (by omega) hn)
            go_wp2_with (go_at_call 79; refine HRT.out.mono ?_; rintro e w6 ⟨rfl, k6, p6⟩; have K6 := hid k6; have P6 := hid p6; clear k6 p6)
            go_meet
            exact ⟨K6, hid (P6.out.mono (by omega) (by omega))⟩
          | false =>
            have HE := hid (show rotF s m e F = F from by
              rcases HT2.out rfl with q | q
              · rw [q]; exact rot_id1
              · rw [q]; exact rot_id2)
            go_wp2_with fail
            go_meet
            rw [HE.out]
            exact ⟨HG1, hid .rfl'⟩
        case rest =>
          obtain ⟨HG2, HP2⟩ := hcut
          clear HG1 HT1 HT2
          obtain ⟨G, hG⟩ : ∃ q, rotF s m e F = q := ⟨_, rfl⟩
          rw [hG] at HG2 HP2 HXL HXR HM
          have HVG := hid (HP2.out.vals HV.out hbn)
          clear hG
          as_aux_lemma =>
          go_upto_region 41 with fail
          go_cut [199] (fun v wx => ∃ t : Bool, v = .bool t ∧ Hid (t = true → a < s ∧ s < mid) ∧ Hid (t = false → a = s ∨ s = mid) ∧ Hid (RowF w0 wx bk n G))
          case first =>
            by_cases q1 : a < s
            · have g1 : (a : Int) < (s : Int) := by omega
              by_cases q2 : s < mid
              · have g2 : (s : Int) < (mid : Int) := by omega
                go_wp2_with fail
                go_meet
                exact ⟨true, rfl, hid fun _ => ⟨q1, q2⟩, hid (fun h => by cases h), HG2⟩
              · have g2 : ¬ (s : Int) < (mid : Int) := by omega
                go_wp2_with fail
                go_meet
                exact ⟨false, rfl, hid (fun h => by cases h), hid fun _ => by omega, HG2⟩
            · have g1 : ¬ (a : Int) < (s : Int) := by omega
              go_wp2_with fail
              go_meet
              exact ⟨false, rfl, hid (fun h => by cases h), hid fun _ => by omega, HG2⟩
          case rest =>
            obtain ⟨t, rfl, HT1, HT2, HG3⟩ := hcut
            clear HG2
            go_upto_if 199 with fail
            go_cut [] (fun wx => Hid (∃ G1, RowF w0 wx bk n G1 ∧ Pm a mid G G1 ∧ Srt R a mid G1))
            case first =>
              cases t with
              | true =>
                have q := HT1.out rfl
                have HRT := hid (IH.out (mid - a) (by omega) a s mid G _ (Nat.le_refl _) HG3.out HVG.out q.1 q.2 (by omega) HM.out.2.1 HM.out.2.2.1 HXL.out)
                go_wp2_with (go_at_call 76; refine HRT.out.mono ?_; rintro e w6 ⟨rfl, F6, k6, p6, s6⟩; have K6 := hid k6; have P6 := hid p6; have S6 := hid s6; clear k6 p6 s6)
                go_meet
                exact hid ⟨F6, K6.out, P6.out, S6.out⟩
              | false =>
                have HE := hid (show Srt R a mid G from by
                  rcases HT2.out rfl with q | q
                  · rw [q]; exact HM.out.2.2.1
                  · rw [← q]; exact HM.out.2.1)
                go_wp2_with fail
                go_meet
                exact hid ⟨G, HG3.out, .rfl', HE.out⟩
            case rest =>
              obtain ⟨G1, g2, g3, g4⟩ := hcut.out
              have HG4 := hid g2
              have HP4 := hid g3
              have HS4 := hid g4
              clear hcut g2 g3 g4 HG3 HT1 HT2
              have HV4 := hid (HP4.out.vals HVG.out (by omega))
              as_aux_lemma =>
              go_upto_region 43 with fail
              go_cut [213] (fun v wx => ∃ t : Bool, v = .bool t ∧ Hid (t = true → mid < e ∧ e < b) ∧ Hid (t = false → mid = e ∨ e = b) ∧ Hid (RowF w0 wx bk n G1))
              case first =>
                by_cases q1 : mid < e
                · have g1 : (mid : Int) < (e : Int) := by omega
                  by_cases q2 : e < b
                  · have g2 : (e : Int) < (b : Int) := by omega
                    go_wp2_with fail
                    go_meet
                    exact ⟨true, rfl, hid fun _ => ⟨q1, q2⟩, hid (fun h => by cases h), HG4⟩
                  · have g2 : ¬ (e : Int) < (b : Int) := by omega
                    go_wp2_with fail
                    go_meet
                    exact ⟨false, rfl, hid (fun h => by cases h), hid fun _ => by omega, HG4⟩
                · have g1 : ¬ (mid : Int) < (e : Int) := by omega
                  go_wp2_with fail
                  go_meet
                  exact ⟨false, rfl, hid (fun h => by cases h), hid fun _ => by omega, HG4⟩
              case rest =>
                obtain ⟨t, rfl, HT1, HT2, HG5⟩ := hcut
                clear HG4
                have HE1 := hid (show ∀ x y, mid ≤ x → Srt R x y G → Srt R x y G1 from fun x y hx h i j h1 h2 h3 => by
                  rw [HP4.out.out (.inr (by omega)), HP4.out.out (k := j) (.inr (by omega))]
                  exact h i j h1 h2 h3)
                cases t with
                | true =>
                  have q := HT1.out rfl
                  have HX4 := hid (show Crs c R mid e b G1 from fun i j h1 h2 h3 h4 => by
                    rw [HP4.out.out (k := i) (.inr h1), HP4.out.out (k := j) (.inr (by omega))]
                    exact HXR.out i j h1 h2 h3 h4)
                  have HRT := hid (IH.out (b - mid) (by omega) mid e b G1 _ (Nat.le_refl _) HG5.out HV4.out q.1 q.2 hbn (HE1.out _ _ (Nat.le_refl _) HM.out.2.2.2.1) (HE1.out _ _ (by omega) HM.out.2.2.2.2) HX4.out)
                  go_wp2_with (go_at_call 76; refine HRT.out.mono ?_; rintro e w6 ⟨rfl, F6, k6, p6, s6⟩; have K6 := hid k6; have P6 := hid p6; have S6 := hid s6; clear k6 p6 s6)
                  go_end0
                  exact ⟨rfl, F6, K6.out, (HP2.out.trans (HP4.out.mono (Nat.le_refl _) (by omega))).trans (P6.out.mono (by omega) (Nat.le_refl _)), merged HM.out.1 HP4.out HS4.out P6.out S6.out⟩
                | false =>
                  have HE := hid (show Srt R mid b G1 from by
                    rcases HT2.out rfl with q | q
                    · rw [q]; exact HE1.out _ _ (by omega) HM.out.2.2.2.2
                    · rw [← q]; exact HE1.out _ _ (Nat.le_refl _) HM.out.2.2.2.1)
                  go_wp2_with fail
                  go_end0
                  exact ⟨rfl, G1, HG5.out, HP2.out.trans (HP4.out.mono (Nat.le_refl _) (by omega)), merged HM.out.1 HP4.out HS4.out .rfl' HE.out⟩
end
end Go.Proofs.Ytoeeighfjoplhaa

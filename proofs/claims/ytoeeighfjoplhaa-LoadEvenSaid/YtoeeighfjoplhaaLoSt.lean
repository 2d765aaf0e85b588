/-
  Contracts of slices.stableCmpFunc and SortStableFunc at []int, of whatever length.
-/
import Derived.Test.YtoeeighfjoplhaaLoSn
import Derived.Test.YtoeeighfjoplhaaLoV
import Derived.Deep.CutBlock
import Derived.Deep.DeepCutAuto
namespace Go.Proofs.Ytoeeighfjoplhaa
open Go.RowKit
section
variable {w0 w : World} {bk n cap : Nat} {g : FuncId} {bd cb : Array Value} {V : Int → Prop} {c : Int → Int → Int} {R : Int → Int → Prop} {F : Nat → Int}
/-- A multiple. -/
def Mul (d p : Nat) : Prop := ∃ k, p = d * k
theorem Mul.zero (d : Nat) : Mul d 0 := ⟨0, rfl⟩
theorem Mul.add {d p : Nat} (h : Mul d p) : Mul d (p + d) := by obtain ⟨k, rfl⟩ := h; exact ⟨k + 1, by rw [Nat.mul_add, Nat.mul_one]⟩
theorem Mul.half {d p : Nat} (h : Mul (2 * d) p) : Mul d p := by obtain ⟨k, rfl⟩ := h; exact ⟨2 * k, by rw [Nat.mul_comm 2 d, Nat.mul_assoc]⟩
theorem Mul.gap {d p q : Nat} (h : Mul d p) (h2 : Mul d q) (hpq : p < q) : p + d ≤ q := by
  obtain ⟨i, rfl⟩ := h
  obtain ⟨j, rfl⟩ := h2
  have hij : i + 1 ≤ j := by
    by_cases e : i + 1 ≤ j
    · exact e
    · have := Nat.mul_le_mul_left d (show j ≤ i by omega)
      omega
  have := Nat.mul_le_mul_left d hij
  rwa [Nat.mul_add, Nat.mul_one] at this
/-- The blocks are in order. -/
def BS (R : Int → Int → Prop) (d x n : Nat) (f : Nat → Int) : Prop := ∀ p, Mul d p → p < x → Srt R p (min (p + d) n) f
/-- Across the bounds of the blocks. -/
def XS (c : Int → Int → Int) (R : Int → Int → Prop) (d n : Nat) (f : Nat → Int) : Prop := ∀ p, Mul d p → p ≤ n → Crs c R 0 p n f
section
variable {d x y : Nat} {f h : Nat → Int}
theorem BS.pm (hb : BS R d x n f) (p : Pm x y f h) (hx : Mul d x) : BS R d x n h := fun q hq hqx i j h1 h2 h3 => by
  have hg := hq.gap hx hqx
  rw [p.out (k := i) (.inl (by omega)), p.out (k := j) (.inl (by omega))]
  exact hb q hq hqx i j h1 h2 h3
theorem BS.more (hb : BS R d x n f) (hx : Mul d x) (hs : Srt R x (min (x + d) n) f) : BS R d (x + d) n f := fun q hq hqx => by
  by_cases e : q < x
  · exact hb q hq e
  · have : q = x := by
      rcases Nat.lt_or_ge x q with e2 | e2
      · have := hx.gap hq e2
        omega
      · omega
    rw [this]
    exact hs
theorem XS.pm (hb : XS c R d n f) (p : Pm x y f h) (hx : Mul d x) (hy : y ≤ x + d) (hyn : y ≤ n) : XS c R d n h := fun q hq hqn => (hb q hq hqn).pm p (Nat.zero_le _) hyn (by
  rcases Nat.lt_or_ge x q with e | e
  · have := hx.gap hq e
    omega
  · exact .inl e)
theorem XS.double (hb : XS c R d n f) : XS c R (2 * d) n f := fun q hq hqn => hb q hq.half hqn
theorem Says.xs {F : Nat → Int} (hs : Says c R 0 n F) (d : Nat) : XS c R d n F := fun _ _ _ => hs.crs
end
set_option maxRecDepth 100000 in
set_option maxHeartbeats 4000000 in
theorem stable_any (hR : Ord R) (hC : Cmp w0 bk g bd cb V c) (h : RowF w0 w bk n F) (hV : ∀ k, k < n → V (F k)) (hS : Says c R 0 n F) (hn : n ≤ 1000000) :
    Calls Try.prog 69 #[.slice (some ⟨bk, 0, none⟩) n cap, .int .i64 (n : Int), .func (.func g) bd cb] w fun e w' => e = .returned (.tuple #[]) ∧ ∃ F', RowF w0 w' bk n F' ∧ Pm 0 n F F' ∧ Srt R 0 n F' := by
  have HR := hid hR
  have HC := hid hC
  have H0 := hid h
  have HV := hid hV
  have HS := hid hS
  clear hR hC h hV hS
  go_enter Try.func69, Try.ntmps69
  go_wp2_with fail
  go_loopw [7, 8] (fun u v wr => ∃ (p : Nat) (G : Nat → Int), u = .int .i64 (p : Int) ∧ v = .int .i64 ((p : Int) + 20) ∧ p ≤ n ∧ Hid (Mul 20 p) ∧ Hid (RowF w0 wr bk n G) ∧ Hid (Pm 0 p F G) ∧ Hid (BS R 20 p n G) ∧ Hid (XS c R 20 n G)) (fun u _ _ => n - (vNum u).toNat)
  case atStart => exact ⟨0, F, rfl, by go_num, Nat.zero_le _, hid (Mul.zero _), H0, hid .rfl', hid fun q h1 h2 => by omega, hid (HS.out.xs 20)⟩
  case round =>
    clear H0
    obtain ⟨p, G, rfl, rfl, hpn, HM, HG, HP, HB, HX⟩ := hrel
    have wp20 := wrapI (x := (p : Int) + 20) (by unfold I64; omega)
    have HVG := hid (show ∀ k, k < n → V (G k) from HP.out.vals HV.out hpn)
    have HSG := hid (show ∀ b, b ≤ n → Says c R p b G from fun b hb i q h1 h2 h3 => by
      rw [HP.out.out (k := i) (.inr (by omega)), HP.out.out (k := q) (.inr h1)]
      exact HS.out i q (Nat.zero_le _) h2 (by omega))
    by_cases hle : p + 20 ≤ n
    · have gle : (p : Int) + 20 ≤ (n : Int) := by omega
      have ep : (p : Int) + 20 = ((p + 20 : Nat) : Int) := by omega
      have HRT := hid (insertion_any (cap := cap) HR.out HC.out HG.out HVG.out (a := p) (b := p + 20) (HSG.out _ hle) (by omega) hle hn)
      rw [← ep] at HRT
      clear ep
      have wp40 := wrapI (x := (p : Int) + 20 + 20) (by unfold I64; omega)
      go_wp2_with (go_at_call 59; refine HRT.out.mono ?_; rintro e w6 ⟨rfl, F6, k6, p6, s6⟩; have K6 := hid k6; have P6 := hid p6; have S6 := hid s6; clear k6 p6 s6)
      go_roundw
      case rel =>
        refine ⟨p + 20, F6, by go_num, by go_num, hle, hid HM.out.add, K6, hid ((HP.out.mono (Nat.le_refl _) (by omega)).trans (P6.out.mono (Nat.zero_le _) (Nat.le_refl _))), hid ((HB.out.pm P6.out HM.out).more HM.out ?_), hid (HX.out.pm P6.out HM.out (Nat.le_refl _) hle)⟩
        rw [show min (p + 20) n = p + 20 from by omega]
        exact S6.out
      case measure => simp [vNum] <;> omega
    · have gle : ¬ (p : Int) + 20 ≤ (n : Int) := by omega
      have HRT := hid (insertion_any (cap := cap) HR.out HC.out HG.out HVG.out (a := p) (b := n) (HSG.out _ (Nat.le_refl _)) hpn (Nat.le_refl _) hn)
      go_wp2_with (go_at_call 59; refine HRT.out.mono ?_; rintro e w6 ⟨rfl, F6, k6, p6, s6⟩; have K6 := hid k6; have P6 := hid p6; have S6 := hid s6; clear k6 p6 s6)
      have HP1 := hid (show Pm 0 n F F6 from (HP.out.mono (Nat.le_refl _) hpn).trans (P6.out.mono (Nat.zero_le _) (Nat.le_refl _)))
      have HB1 := hid (show BS R 20 (p + 20) n F6 from (HB.out.pm P6.out HM.out).more HM.out (by rw [show min (p + 20) n = n from by omega]; exact S6.out))
      have HX1 := hid (show XS c R 20 n F6 from HX.out.pm P6.out HM.out (by omega) (Nat.le_refl _))
      have HBn := hid (show BS R 20 n n F6 from fun q h1 h2 => HB1.out q h1 (by omega))
      clear HB HX HP HG HVG HSG HRT P6 S6 HM HB1
      go_loopw [6, 7, 8, 9] (fun s u v z wr => ∃ (d : Nat) (G : Nat → Int), s = .int .i64 (d : Int) ∧ 20 ≤ d ∧ d ≤ 2000000 ∧ Hid (RowF w0 wr bk n G) ∧ Hid (Pm 0 n F G) ∧ Hid (BS R d n n G) ∧ Hid (XS c R d n G)) (fun s _ _ _ _ => n - (vNum s).toNat)
      case atStart => exact ⟨20, F6, rfl, by omega, by omega, K6, HP1, HBn, HX1⟩
      case round =>
        clear K6 HP1 HBn HX1
        obtain ⟨d, G, rfl, hd20, hd2, HG, HP, HB, HX⟩ := hrel
        by_cases hdn : d < n
        · have gdn : (d : Int) < (n : Int) := by omega
          have wd2 := wrapI (x := 2 * (d : Int)) (by unfold I64; omega)
          have wd2' := wrapI (x := (d : Int) * 2) (by unfold I64; omega)
          go_upto_block 4 with fail
          go_cut [7, 8] from 28 to 62 (fun u v wx => ∃ (p : Nat) (H : Nat → Int), u = .int .i64 (p : Int) ∧ v = .int .i64 ((p : Int) + 2 * (d : Int)) ∧ p ≤ n ∧ n < p + 2 * d ∧ Hid (Mul (2 * d) p) ∧ Hid (RowF w0 wx bk n H) ∧ Hid (Pm 0 p G H) ∧ Hid (BS R (2 * d) p n H) ∧ Hid (XS c R (2 * d) n H))
          case first =>
            go_wp2_with fail
            go_loopw [7, 8] (fun u v wx => ∃ (p : Nat) (H : Nat → Int), u = .int .i64 (p : Int) ∧ v = .int .i64 ((p : Int) + 2 * (d : Int)) ∧ p ≤ n ∧ Hid (Mul (2 * d) p) ∧ Hid (RowF w0 wx bk n H) ∧ Hid (Pm 0 p G H) ∧ Hid (BS R (2 * d) p n H) ∧ Hid (XS c R (2 * d) n H)) (fun u _ _ => n - (vNum u).toNat)
            case atStart => exact ⟨0, G, rfl, by go_num, Nat.zero_le _, hid (Mul.zero _), HG, hid .rfl', hid fun q h1 h2 => by omega, hid HX.out.double⟩
            case round =>
              obtain ⟨p, H, rfl, rfl, hpn, HM, HG1, HP1, HB1, HX1⟩ := hrel
              have wpd := wrapI (x := (p : Int) + 2 * (d : Int)) (by unfold I64; omega)
              have wpd1 := wrapI (x := (p : Int) + (d : Int)) (by unfold I64; omega)
              have wpd4 := wrapI (x := (p : Int) + 2 * (d : Int) + 2 * (d : Int)) (by unfold I64; omega)
              have HVH := hid (show ∀ k, k < n → V (H k) from ((HP.out.trans (HP1.out.mono (Nat.le_refl _) hpn))).vals HV.out (Nat.le_refl _))
              by_cases hle : p + 2 * d ≤ n
              · have gle : (p : Int) + 2 * (d : Int) ≤ (n : Int) := by omega
                have ep : (p : Int) + 2 * (d : Int) = ((p + 2 * d : Nat) : Int) := by omega
                have ep1 : (p : Int) + (d : Int) = ((p + d : Nat) : Int) := by omega
                have HL := hid (show Srt R p (p + d) H from fun i j h1 h2 h3 => by
                  rw [HP1.out.out (k := i) (.inr h1), HP1.out.out (k := j) (.inr (by omega))]
                  have := HB.out p HM.out.half (by omega)
                  rw [show min (p + d) n = p + d from by omega] at this
                  exact this i j h1 h2 h3)
                have HR2 := hid (show Srt R (p + d) (p + 2 * d) H from fun i j h1 h2 h3 => by
                  rw [HP1.out.out (k := i) (.inr (by omega)), HP1.out.out (k := j) (.inr (by omega))]
                  have := HB.out (p + d) HM.out.half.add (by omega)
                  rw [show min (p + d + d) n = p + 2 * d from by omega] at this
                  exact this i j h1 h2 h3)
                have HX2 := hid (show Crs c R p (p + d) (p + 2 * d) H from fun i j h1 h2 h3 h4 => by
                  rw [HP1.out.out (k := i) (.inr h1), HP1.out.out (k := j) (.inr (by omega))]
                  exact HX.out (p + d) HM.out.half.add (by omega) i j (Nat.zero_le _) h2 h3 (by omega))
                have HRT := hid (symm_any (cap := cap) HR.out HC.out hn (2 * d) p (p + d) (p + 2 * d) H wr (by omega) HG1.out HVH.out (by omega) (by omega) hle HL.out HR2.out HX2.out)
                rw [← ep, ← ep1] at HRT
                clear ep ep1
                go_wp2_with (go_at_call 76; refine HRT.out.mono ?_; rintro e w6 ⟨rfl, F6, k6, p6, s6⟩; have K6 := hid k6; have P6 := hid p6; have S6 := hid s6; clear k6 p6 s6)
                go_roundw
                case rel =>
                  refine ⟨p + 2 * d, F6, by go_num, by go_num, hle, hid HM.out.add, K6, hid ((HP1.out.mono (Nat.le_refl _) (by omega)).trans (P6.out.mono (Nat.zero_le _) (Nat.le_refl _))), hid ((HB1.out.pm P6.out HM.out).more HM.out ?_), hid (HX1.out.pm P6.out HM.out (Nat.le_refl _) hle)⟩
                  rw [show min (p + 2 * d) n = p + 2 * d from by omega]
                  exact S6.out
                case measure => simp [vNum] <;> omega
              · have gle : ¬ (p : Int) + 2 * (d : Int) ≤ (n : Int) := by omega
                go_wp2_with fail
                go_meet
                exact ⟨p, H, rfl, rfl, hpn, by omega, HM, HG1, HP1, HB1, HX1⟩
          case rest =>
            obtain ⟨p, H, rfl, rfl, hpn, hpd, HM, HG1, HP1, HB1, HX1⟩ := hcut
            have wpd1 := wrapI (x := (p : Int) + (d : Int)) (by unfold I64; omega)
            have HVH := hid (show ∀ k, k < n → V (H k) from ((HP.out.trans (HP1.out.mono (Nat.le_refl _) hpn))).vals HV.out (Nat.le_refl _))
            by_cases hle : p + d < n
            · have gle : (p : Int) + (d : Int) < (n : Int) := by omega
              have ep1 : (p : Int) + (d : Int) = ((p + d : Nat) : Int) := by omega
              have HL := hid (show Srt R p (p + d) H from fun i j h1 h2 h3 => by
                rw [HP1.out.out (k := i) (.inr h1), HP1.out.out (k := j) (.inr (by omega))]
                have := HB.out p HM.out.half (by omega)
                rw [show min (p + d) n = p + d from by omega] at this
                exact this i j h1 h2 h3)
              have HR2 := hid (show Srt R (p + d) n H from fun i j h1 h2 h3 => by
                rw [HP1.out.out (k := i) (.inr (by omega)), HP1.out.out (k := j) (.inr (by omega))]
                have := HB.out (p + d) HM.out.half.add hle
                rw [show min (p + d + d) n = n from by omega] at this
                exact this i j h1 h2 h3)
              have HX2 := hid (show Crs c R p (p + d) n H from fun i j h1 h2 h3 h4 => by
                rw [HP1.out.out (k := i) (.inr h1), HP1.out.out (k := j) (.inr (by omega))]
                exact HX.out (p + d) HM.out.half.add (by omega) i j (Nat.zero_le _) h2 h3 h4)
              have HRT := hid (symm_any (cap := cap) HR.out HC.out hn (2 * d) p (p + d) n H wc (by omega) HG1.out HVH.out (by omega) hle (Nat.le_refl _) HL.out HR2.out HX2.out)
              rw [← ep1] at HRT
              clear ep1
              go_wp2_with (go_at_call 76; refine HRT.out.mono ?_; rintro e w6 ⟨rfl, F6, k6, p6, s6⟩; have K6 := hid k6; have P6 := hid p6; have S6 := hid s6; clear k6 p6 s6)
              go_roundw
              case rel =>
                refine ⟨2 * d, F6, by go_num, by omega, by omega, K6, hid ((HP.out.trans (HP1.out.mono (Nat.le_refl _) hpn)).trans (P6.out.mono (Nat.zero_le _) (Nat.le_refl _))), hid fun q h1 h2 => ?_, hid (HX1.out.pm P6.out HM.out (by omega) (Nat.le_refl _))⟩
                exact (HB1.out.pm P6.out HM.out).more HM.out (by rw [show min (p + 2 * d) n = n from by omega]; exact S6.out) q h1 (by omega)
              case measure => simp [vNum] <;> omega
            · have gle : ¬ (p : Int) + (d : Int) < (n : Int) := by omega
              go_wp2_with fail
              go_roundw
              case rel =>
                refine ⟨2 * d, H, by go_num, by omega, by omega, HG1, hid (HP.out.trans (HP1.out.mono (Nat.le_refl _) hpn)), hid fun q h1 h2 => ?_, HX1⟩
                refine HB1.out.more HM.out ?_ q h1 (by omega)
                rw [show min (p + 2 * d) n = n from by omega]
                intro i j g1 g2 g3
                rw [HP1.out.out (k := i) (.inr g1), HP1.out.out (k := j) (.inr (by omega))]
                have := HB.out p HM.out.half (by omega)
                rw [show min (p + d) n = n from by omega] at this
                exact this i j g1 g2 g3
              case measure => simp [vNum] <;> omega
        · have gdn : ¬ (d : Int) < (n : Int) := by omega
          have HF := hid (show Srt R 0 n G from fun i j h1 h2 h3 => by
            have := HB.out 0 (Mul.zero _) (by omega)
            rw [show min (0 + d) n = n from by omega] at this
            exact this i j h1 h2 h3)
          go_wp2_with fail
          go_end0
          exact ⟨rfl, G, HG.out, HP.out, HF.out⟩
set_option maxRecDepth 100000 in
set_option maxHeartbeats 4000000 in
theorem sortStable_any (hR : Ord R) (hC : Cmp w0 bk g bd cb V c) (h : RowF w0 w bk n F) (hV : ∀ k, k < n → V (F k)) (hS : Says c R 0 n F) (hn : n ≤ 1000000) :
    Calls Try.prog 54 #[.slice (some ⟨bk, 0, none⟩) n cap, .func (.func g) bd cb] w fun e w' => e = .returned (.tuple #[]) ∧ ∃ F', RowF w0 w' bk n F' ∧ Pm 0 n F F' ∧ Srt R 0 n F' := by
  have HX := hid (stable_any (cap := cap) hR hC h hV hS hn)
  clear hR hC h hV hS
  go_enter Try.func54, Try.ntmps54
  go_wp2_with (go_at_call 69; refine HX.out.mono ?_; rintro e w4 ⟨rfl, k4⟩)
  go_end0
  exact ⟨rfl, k4⟩
end
end Go.Proofs.Ytoeeighfjoplhaa

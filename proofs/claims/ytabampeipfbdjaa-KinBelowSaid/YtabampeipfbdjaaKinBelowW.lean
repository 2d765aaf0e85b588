/-
  The walk of KinBelow.
-/
import Derived.Test.YtabampeipfbdjaaKinMovesW
import Derived.Deep.DeepCutAuto
import Derived.Deep.CutRange
namespace Go.Proofs.Ytabampeipfbdjaa
open Go.RowKit

section
variable {T : Tre} {D : Int → Nat} {id : Int}
/-- So far, how tall. -/
def TI (T : Tre) (id : Int) (l : List Int) (t : Int) : Prop := 0 ≤ t ∧ t ≤ tall T id ∧ ∀ y ∈ l, (id = 0 ∨ id ∈ path T y) → ((path T y).length : Int) - ((path T id).length : Int) ≤ t
theorem TI.no {l : List Int} {t y : Int} (h : TI T id l t) (hn : ¬ (id = 0 ∨ id ∈ path T y)) : TI T id (l ++ [y]) t :=
  ⟨h.1, h.2.1, fun z hz hi => by
    rcases List.mem_append.1 hz with hz | hz
    · exact h.2.2 z hz hi
    · rw [List.mem_singleton.1 hz] at hi
      exact absurd hi hn⟩
theorem path_diff (W : WT T D) {q a : Int × List Int} (hq : T id = some q) {y : Int} (hy : T y = some a) (hi : id = 0 ∨ id ∈ path T y) : ((path T y).length : Int) - ((path T id).length : Int) ≤ tall T id := by
  obtain ⟨_, _, h3, _⟩ := tall_is W hq
  have := h3 y ((mem_under W hq).2 ⟨⟨a, hy⟩, hi⟩)
  rw [path_len W hy, path_len W hq]
  exact this
theorem TI.yes (W : WT T D) {q a : Int × List Int} (hq : T id = some q) {l : List Int} {t y : Int} (hy : T y = some a) (h : TI T id l t) (hi : id = 0 ∨ id ∈ path T y) : TI T id (l ++ [y]) (max t (((path T y).length : Int) - ((path T id).length : Int))) := by
  have hd := path_diff W hq hy hi
  refine ⟨by have := h.1; omega, by have := h.2.1; omega, fun z hz hi2 => ?_⟩
  rcases List.mem_append.1 hz with hz | hz
  · have := h.2.2 z hz hi2
    omega
  · rw [List.mem_singleton.1 hz]
    omega
theorem TI.end (W : WT T D) {q : Int × List Int} (hq : T id = some q) {t : Int} (h : TI T id (under T 0) t) : tall T id = t := by
  obtain ⟨_, _, _, y, hy, ht⟩ := tall_is W hq
  obtain ⟨⟨a, ha⟩, hi⟩ := (mem_under W hq).1 hy
  obtain ⟨k, h0⟩ := W.top
  have := h.2.2 y ((mem_under W h0).2 ⟨⟨a, ha⟩, .inl rfl⟩) hi
  rw [path_len W ha, path_len W hq] at this
  have := h.2.1
  omega
end
set_option maxHeartbeats 2000000 in
set_option maxRecDepth 100000 in
theorem kinBelow_walk (w : World) (os : List Kop) (x : Int) {v : Value} (h : Kops w Anyb v os) (hx : 0 ≤ x ∧ x ≤ 255) :
    Calls Try.prog 5 #[v, .int .u8 x] w fun e w' => e = .returned (.bool true) ∧ Kp No w w' := by
  have HO := hid h
  obtain ⟨A, c, rfl, hc, hm, _⟩ := h.rw
  unfold maxLen at hm
  obtain ⟨n, hn⟩ : ∃ n, os.length = n := ⟨_, rfl⟩
  have HN := hid hn
  rw [hn] at hc HO ⊢
  clear hn h
  by_cases hl : 60 < n
  · have g1 : (60 : Int) < (n : Int) := by omega
    go_enter Try.func5, Try.ntmps5
    go_wp2_with (first
      | (go_at_call 9
         refine (awake_any w).mono ?_
         rintro e w1 ⟨rfl, k1⟩
         have K1 := hid k1
         clear k1))
    go_ret
    exact ⟨rfl, K1.out⟩
  · have g1 : ¬ (60 : Int) < (n : Int) := by omega
    obtain ⟨D, W⟩ := WT.fold os newT _ WT.new
    obtain ⟨T, hT⟩ : ∃ T, os.foldl doT newT = T := ⟨_, rfl⟩
    rw [hT] at W
    have HT := hid hT
    have HW := hid W
    have i0 : I64 0 := by unfold I64; omega
    obtain ⟨k0, h0⟩ := W.top
    obtain ⟨r0, hr0⟩ := under_head W h0
    obtain ⟨al, hal⟩ : ∃ al, under T 0 = al := ⟨_, rfl⟩
    have hb0 := under_len W 0
    obtain ⟨n0, hn0⟩ : ∃ n0, al.length = n0 := ⟨_, rfl⟩
    have hpos : 0 < n0 := by rw [← hn0, ← hal, hr0]; simp
    rw [hal, hn0] at hb0
    have HN0 := hid hn0
    have HAL := hid hal
    have HIN := hid (fun y (hy : y ∈ al) => show ∃ a, T y = some a from ((mem_under W h0).1 (by rw [hal]; exact hy)).1)
    obtain ⟨a, rfl⟩ : ∃ a : Nat, x = (a : Int) := ⟨x.toNat, by omega⟩
    have hg0 : ((n0 : Int) == 0) = false := by simp; omega
    obtain ⟨j, hj⟩ : ∃ j, a % n0 = j := ⟨_, rfl⟩
    have hjn : j < n0 := by rw [← hj]; exact Nat.mod_lt _ hpos
    have hrem : ((a : Int)).tmod (n0 : Int) = (j : Int) := by rw [← hj]; rfl
    have hjl : j < al.length := by rw [hn0]; exact hjn
    obtain ⟨id, hid'⟩ : ∃ id, al.getD j 0 = id := ⟨_, rfl⟩
    have hmem : id ∈ al := by rw [← hid']; simp [List.getD, hjl]
    obtain ⟨q, hq⟩ := HIN.out id hmem
    have HQ := hid hq
    have HID := hid hid'
    obtain ⟨ru, hru⟩ := under_head W hq
    have HRU := hid hru
    have hlow := W.low hq
    have hii : I64 id := by unfold I64; omega
    have hub := under_len W id
    obtain ⟨nu, hnu⟩ : ∃ nu, (under T id).length = nu := ⟨_, rfl⟩
    have hup : 0 < nu := by rw [← hnu, hru]; simp
    rw [hnu] at hub
    have HNU := hid hnu
    clear hT W h0 hr0 hal hn0 hj hid' hmem hq hru hnu
    go_enter Try.func5, Try.ntmps5
    go_wp2_with (first
      | (go_at_call 9
         refine (awake_any w).mono ?_
         rintro e w1 ⟨rfl, k1⟩
         have K1 := hid k1
         clear k1)
      | (go_at_call 28
         refine (walked_any (HO.out.kp0 K1.out) (by rw [HN.out]; omega)).mono ?_
         rintro e w2 ⟨g, m, _, cnt, rfl, n2, _, _, _, k2⟩
         rw [HT.out] at n2
         have N2 := hid n2
         have K2 := hid (K1.out.trans k2)
         clear n2 k2)
      | (go_at_call 16
         with_reducible refine (under_any (x := 0) HW.out N2.out i0).mono ?_
         rintro e w3 ⟨v3, rfl, o3, k3⟩
         rw [HAL.out] at o3
         obtain ⟨b3, c3, e3, _, _, hcl3, _⟩ := o3.form2 (by rw [HN0.out]; exact hpos)
         rw [HN0.out] at e3 hcl3
         subst e3
         have cj := o3.cellAt (d := (0 : Int)) (j := j) (i := 0) hjl (by omega)
         simp only [zf, Nat.mul_one, Nat.add_zero] at cj
         rw [HID.out] at cj
         have O3 := hid o3
         have N3 := hid (N2.out.kp0 k3)
         have K3 := hid (K2.out.trans k3)
         clear o3 k3)
      | (go_at_call 16
         with_reducible refine (under_any (x := id) HW.out N3.out hii).mono ?_
         rintro e w4 ⟨v4, rfl, o4, k4⟩
         obtain ⟨b4, c4, e4, _, _, hcl4, _⟩ := o4.form2 (by rw [HNU.out]; exact hup)
         rw [HNU.out] at e4 hcl4
         subst e4
         have O4 := hid o4
         have O34 := hid (O3.out.kp0 k4)
         have N4 := hid (N3.out.kp0 k4)
         have K4 := hid (K3.out.trans k4)
         clear o4 k4 cj))
    go_loopw [10, 11] (fun t i wr => ∃ (k : Nat) (tt : Int), k ≤ n0 ∧ i = .int .i64 (k : Int) ∧ t = .int .i64 tt ∧ Hid (TI T id (al.take k) tt) ∧ Hid (Kp No w4 wr)) (fun _ i _ => n0 - (intOf i).toNat)
    case atStart => exact ⟨0, 0, Nat.zero_le _, rfl, rfl, hid ⟨Int.le_refl _, (tall_is HW.out HQ.out).1, fun y hy => by simp at hy⟩, hid (Kp.refl _ _)⟩
    case round =>
      obtain ⟨k, tt, hk, rfl, rfl, HTI, KW⟩ := hrel
      by_cases hkn : k < n0
      · have hkl : k < al.length := by rw [HN0.out]; exact hkn
        have hg2 : (k : Int) < (n0 : Int) := by omega
        have hwk := wrapI (x := (k : Int) + 1) (by unfold I64; omega)
        have HS := hid (take_s al hkl 0)
        have HYM := hid (show al.getD k 0 ∈ al by simp [List.getD, hkl])
        have HC := hid (fun (w' : World) (kk : Kp No w4 w') => show w'.cell? ⟨b3, k, none⟩ = some (.int .i64 (al.getD k 0)) from by
          have := (O34.out.kp0 kk).cellAt (d := (0 : Int)) (j := k) (i := 0) hkl (by omega)
          simpa [zf] using this)
        obtain ⟨y, hy⟩ : ∃ y, al.getD k 0 = y := ⟨_, rfl⟩
        rw [hy] at HS HYM HC
        obtain ⟨qy, hqy⟩ := HIN.out y HYM.out
        have HQY := hid hqy
        have hlowy := HW.out.low hqy
        have hyi : I64 y := by unfold I64; omega
        have HBI := hid (show y ∈ under T id ↔ (id = 0 ∨ id ∈ path T y) by
          rw [mem_under HW.out HQ.out]
          exact ⟨fun h => h.2, fun h => ⟨⟨_, hqy⟩, h⟩⟩)
        have cy := HC.out wr KW.out
        have hlp := path_le HW.out y
        have hli := path_le HW.out id
        obtain ⟨ly, hly⟩ : ∃ ly, (path T y).length = ly := ⟨_, rfl⟩
        obtain ⟨li, hli'⟩ : ∃ li, (path T id).length = li := ⟨_, rfl⟩
        rw [hly] at hlp
        rw [hli'] at hli
        have HLY := hid hly
        have HLI := hid hli'
        have hws : IntKind.i64.wrap ((ly : Int) - (li : Int)) = (ly : Int) - (li : Int) := wrapI (by unfold I64; omega)
        clear hy hqy hly hli'
        by_cases hz : id = 0
        · have hz1 : (id == 0) = true := by simp [hz]
          have HI := hid (show id = 0 ∨ id ∈ path T y from .inl hz)
          clear hz
          have HDU := hid (show decide (y ∈ under T id) = true by simp [HBI.out, HI.out])
          obtain ⟨t2, ht2⟩ : ∃ t2, max tt ((ly : Int) - (li : Int)) = t2 := ⟨_, rfl⟩
          have HT2 := hid (show TI T id (al.take (k + 1)) t2 by
            rw [HS.out, ← ht2, ← HLY.out, ← HLI.out]
            exact HTI.out.yes HW.out HQ.out HQY.out HI.out)
          go_wp2_with (first
            | (go_at_call 26
               with_reducible refine (path_any (x := y) HW.out (N4.out.kp0 KW.out) hyi).mono ?_
               rintro e w5 ⟨v5, rfl, o5, k5⟩
               have O5 := hid (Ow.rwp (d := (0 : Int)) o5)
               obtain ⟨A5, c5, rfl⟩ := o5.formN HLY.out
               have K5 := hid (KW.out.trans k5)
               have cy5 := HC.out w5 K5.out
               clear o5 k5)
            | (go_at_call 29
               with_reducible refine (in_any (Ow.rwp (d := (0 : Int)) (O4.out.kp0 K5.out)) y).mono ?_
               rintro e w6 ⟨rfl, rfl⟩
               rw [HDU.out])
            | (go_at_call 26
               with_reducible refine (path_any (x := id) HW.out (N4.out.kp0 K5.out) hii).mono ?_
               rintro e w7 ⟨v7, rfl, o7, k7⟩
               obtain ⟨A7, c7, rfl⟩ := o7.formN HLI.out
               have K7 := hid (K5.out.trans k7)
               clear o7 k7))
          go_roundw
          case rel => exact ⟨k + 1, t2, by omega, by go_num, rfl, HT2, K7⟩
          case measure => simp [intOf]; omega
        · have hz1 : (id == 0) = false := by simp [hz]
          by_cases hi : id ∈ path T y
          · have HI := hid (show id = 0 ∨ id ∈ path T y from .inr hi)
            have HD := hid (show decide (id ∈ path T y) = true by simp [hi])
            clear hz hi
            have HDU := hid (show decide (y ∈ under T id) = true by simp [HBI.out, HI.out])
            obtain ⟨t2, ht2⟩ : ∃ t2, max tt ((ly : Int) - (li : Int)) = t2 := ⟨_, rfl⟩
            have HT2 := hid (show TI T id (al.take (k + 1)) t2 by
              rw [HS.out, ← ht2, ← HLY.out, ← HLI.out]
              exact HTI.out.yes HW.out HQ.out HQY.out HI.out)
            go_wp2_with (first
              | (go_at_call 26
                 with_reducible refine (path_any (x := y) HW.out (N4.out.kp0 KW.out) hyi).mono ?_
                 rintro e w5 ⟨v5, rfl, o5, k5⟩
                 have O5 := hid (Ow.rwp (d := (0 : Int)) o5)
                 obtain ⟨A5, c5, rfl⟩ := o5.formN HLY.out
                 have K5 := hid (KW.out.trans k5)
                 have cy5 := HC.out w5 K5.out
                 clear o5 k5)
              | (go_at_call 29
                 with_reducible refine (in_any O5.out id).mono ?_
                 rintro e w6 ⟨rfl, rfl⟩
                 rw [HD.out])
              | (go_at_call 29
                 with_reducible refine (in_any (Ow.rwp (d := (0 : Int)) (O4.out.kp0 K5.out)) y).mono ?_
                 rintro e w6 ⟨rfl, rfl⟩
                 rw [HDU.out])
              | (go_at_call 26
                 with_reducible refine (path_any (x := id) HW.out (N4.out.kp0 K5.out) hii).mono ?_
                 rintro e w7 ⟨v7, rfl, o7, k7⟩
                 obtain ⟨A7, c7, rfl⟩ := o7.formN HLI.out
                 have K7 := hid (K5.out.trans k7)
                 clear o7 k7))
            go_roundw
            case rel => exact ⟨k + 1, t2, by omega, by go_num, rfl, HT2, K7⟩
            case measure => simp [intOf]; omega
          · have HI := hid (show ¬ (id = 0 ∨ id ∈ path T y) from fun e => e.elim hz hi)
            have HD := hid (show decide (id ∈ path T y) = false by simp [hi])
            clear hz hi
            have HDU := hid (show decide (y ∈ under T id) = false by simp [HBI.out, HI.out])
            have HT2 := hid (show TI T id (al.take (k + 1)) tt by
              rw [HS.out]
              exact HTI.out.no HI.out)
            go_wp2_with (first
              | (go_at_call 26
                 with_reducible refine (path_any (x := y) HW.out (N4.out.kp0 KW.out) hyi).mono ?_
                 rintro e w5 ⟨v5, rfl, o5, k5⟩
                 have O5 := hid (Ow.rwp (d := (0 : Int)) o5)
                 obtain ⟨A5, c5, rfl⟩ := o5.formN HLY.out
                 have K5 := hid (KW.out.trans k5)
                 have cy5 := HC.out w5 K5.out
                 clear o5 k5)
              | (go_at_call 29
                 with_reducible refine (in_any O5.out id).mono ?_
                 rintro e w6 ⟨rfl, rfl⟩
                 rw [HD.out])
              | (go_at_call 29
                 with_reducible refine (in_any (Ow.rwp (d := (0 : Int)) (O4.out.kp0 K5.out)) y).mono ?_
                 rintro e w6 ⟨rfl, rfl⟩
                 rw [HDU.out]))
            go_roundw
            case rel => exact ⟨k + 1, tt, by omega, by go_num, rfl, HT2, K5⟩
            case measure => simp [intOf]; omega
      · have hkk : k = n0 := by omega
        subst hkk
        have hng : ¬ (k : Int) < (k : Int) := by omega
        have hti := HTI.out
        rw [List.take_of_length_le (by rw [HN0.out]; omega), ← HAL.out] at hti
        have HE := hid (hti.end HW.out HQ.out)
        clear hti
        go_wp2_with (first
          | (go_at_call 22
             refine (tall_any HW.out (N4.out.kp0 KW.out) hii).mono ?_
             rintro e w9 ⟨rfl, k9⟩
             rw [HE.out]
             have c9 : w9.cell? ⟨b4, 0, none⟩ = some (.int .i64 id) := by
               have := (O4.out.kp0 (KW.out.trans k9)).cellAt (d := (0 : Int)) (j := 0) (i := 0) (by rw [HNU.out]; exact hup) (by omega)
               rw [HRU.out] at this
               simpa [zf] using this
             have K9 := hid (K4.out.trans (KW.out.trans k9))
             clear k9))
        go_ret
        exact ⟨rfl, K9.out⟩
end Go.Proofs.Ytabampeipfbdjaa

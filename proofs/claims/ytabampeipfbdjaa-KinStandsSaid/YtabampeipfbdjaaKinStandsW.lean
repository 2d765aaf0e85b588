/-
  The walk of KinStands.
-/
import Derived.Test.YtabampeipfbdjaaKinMovesW
import Derived.Test.YtabampeipfbdjaaStill
import Derived.Deep.DeepCutAuto
import Derived.Deep.CutRange
import Derived.Deep.RegionHeld3
namespace Go.Proofs.Ytabampeipfbdjaa
open Go.RowKit

section
variable {T : Tre} {D : Int → Nat} {x : Int}
theorem head_path (W : WT T D) {q : Int × List Int} (h : T x = some q) : (path T x).getD 0 0 = x := by
  by_cases h0 : x = 0
  · rw [h0, path_nil W (.inr rfl)]
    rfl
  · rw [path_cons W h h0]
    rfl
/-- A step of a path. -/
theorem path_step (W : WT T D) {q : Int × List Int} (h : T x = some q) : ∀ k, k < (path T x).length → ∃ b a, T ((path T x).getD k 0) = some b ∧ b.1 = (path T x).getD (k + 1) 0 ∧ T ((path T x).getD (k + 1) 0) = some a ∧ (path T x).getD k 0 ∈ a.2 ∧ (path T x).getD k 0 ≠ 0 := by
  refine W.ind (C := fun x => ∀ k, k < (path T x).length → ∃ b a, T ((path T x).getD k 0) = some b ∧ b.1 = (path T x).getD (k + 1) 0 ∧ T ((path T x).getD (k + 1) 0) = some a ∧ (path T x).getD k 0 ∈ a.2 ∧ (path T x).getD k 0 ≠ 0) ?_ ?_ x q h
  · intro k hk
    rw [path_nil W (.inr rfl)] at hk
    simp at hk
  · intro x q h hx ih k hk
    obtain ⟨a, ha⟩ := W.up x q h hx
    rw [path_cons W h hx] at hk ⊢
    cases k with
    | zero =>
      have e1 : (x :: path T q.1).getD 0 0 = x := rfl
      have e2 : (x :: path T q.1).getD (0 + 1) 0 = (path T q.1).getD 0 0 := by simp
      rw [e1, e2, head_path W ha]
      exact ⟨q, a, h, rfl, ha, (W.kid _ _ ha x).2 ⟨q.2, h⟩, hx⟩
    | succ k =>
      have e1 : ∀ j, (x :: path T q.1).getD (j + 1) 0 = (path T q.1).getD j 0 := fun j => by simp
      rw [e1, e1]
      exact ih k (by simpa using hk)
theorem not_take {l : List Int} (h : l.Nodup) {k : Nat} (hk : k < l.length) : l.getD k 0 ∉ l.take k := by
  intro hm
  have e : l.getD k 0 = l[k] := by simp [List.getD, hk]
  rw [e] at hm
  obtain ⟨i, hi, he⟩ := List.mem_iff_getElem.1 hm
  rw [List.length_take] at hi
  rw [List.getElem_take] at he
  exact List.pairwise_iff_getElem.1 h i k (by omega) hk (by omega) he
end
section
variable {α : Type} {n : Nat} {f : α → Nat → Value} {d : α} {w : World} {P : Nat → Prop} {xs : List α} {A : Option Addr} {m c k : Nat}
/-- What reads, cut short. -/
theorem Rw.cut (h : Rw n f d w P (.slice A m c) xs) (hk : k ≤ xs.length) : Rw n f d w P (.slice A k c) (xs.take k) := by
  obtain ⟨A', c', he, h1, h2, h3⟩ := h
  injection he with e1 e2 e3
  subst e1 e3
  have hl : (xs.take k).length = k := by rw [List.length_take]; omega
  refine ⟨A, c, by rw [hl], by omega, h2, fun h0 => ?_⟩
  rw [hl] at h0
  obtain ⟨b, o, rfl, g1, g2, g3⟩ := h3 (by omega)
  refine ⟨b, o, rfl, g1, g2, fun j i hj hi => ?_⟩
  rw [hl] at hj
  rw [g3 j i (by omega) hi]
  simp [List.getD, hj]
end
/-- A block that stays, and all from there on. -/
structure SK (w6 : World) (b6 : Nat) (w : World) : Prop where
  kp : Kp No w6 w
  lt : b6 < w6.heap.size
section
variable {w6 w w' : World} {b6 j : Nat} {u : Value}
theorem SK.kpa (h : w.cell? ⟨b6, j, none⟩ = some u ∧ SK w6 b6 w) : Kp No w6 w := h.2.kp
theorem SK.step (h : w.cell? ⟨b6, j, none⟩ = some u ∧ SK w6 b6 w) (k : Kp No w w') : w'.cell? ⟨b6, j, none⟩ = some u ∧ SK w6 b6 w' :=
  ⟨(k.cell (p := ⟨b6, j, none⟩) (Nat.lt_of_lt_of_le h.2.lt h.2.kp.size) id).trans h.1, ⟨h.2.kp.trans k, h.2.lt⟩⟩
end
set_option maxHeartbeats 2000000 in
set_option maxRecDepth 100000 in
theorem kinStands_walk (w : World) (os : List Kop) {v : Value} (h : Kops w Anyb v os) :
    Calls Try.prog 4 #[v] w fun e w' => e = .returned (.bool true) ∧ Kp No w w' := by
  have HO := hid h
  obtain ⟨A, c, rfl, hc, hm, _⟩ := h.rw
  unfold maxLen at hm
  obtain ⟨n, hn⟩ : ∃ n, os.length = n := ⟨_, rfl⟩
  have HN := hid hn
  rw [hn] at hc HO ⊢
  clear hn h
  by_cases hl : 60 < n
  · have g1 : (60 : Int) < (n : Int) := by omega
    go_enter Try.func4, Try.ntmps4
    go_wp2_with (first
      | (go_at_call 9
         refine (awake_any w).mono ?_
         rintro e w1 ⟨rfl, k1⟩
         have K1 := hid k1
         clear k1))
    go_ret
    exact ⟨rfl, K1.out⟩
  · have g1 : ¬ (60 : Int) < (n : Int) := by omega
    obtain ⟨D, W⟩ := WT.fold os newT _ WT.new
    obtain ⟨T, hT⟩ : ∃ T, os.foldl doT newT = T := ⟨_, rfl⟩
    rw [hT] at W
    have HT := hid hT
    have HW := hid W
    have i0 : I64 0 := by unfold I64; omega
    obtain ⟨k0, h0⟩ := W.top
    obtain ⟨r0, hr0⟩ := under_head W h0
    obtain ⟨al, hal⟩ : ∃ al, under T 0 = al := ⟨_, rfl⟩
    have hb0 := under_len W 0
    have HND := hid (show al.Nodup from hal ▸ under_nodup W 0)
    have HZ := hid (show al.getD 0 0 = 0 by rw [← hal, hr0]; rfl)
    obtain ⟨n0, hn0⟩ : ∃ n0, al.length = n0 := ⟨_, rfl⟩
    have hpos : 0 < n0 := by rw [← hn0, ← hal, hr0]; simp
    rw [hal, hn0] at hb0
    have HN0 := hid hn0
    have HAL := hid hal
    have HIN := hid (fun y (hy : y ∈ al) => show ∃ a, T y = some a from ((mem_under W h0).1 (by rw [hal]; exact hy)).1)
    have hg0 : ((n0 : Int) == 0) = false := by simp; omega
    clear hT W h0 hr0 hal hn0
    go_enter Try.func4, Try.ntmps4
    go_wp2_with (first
      | (go_at_call 9
         refine (awake_any w).mono ?_
         rintro e w1 ⟨rfl, k1⟩
         have K1 := hid k1
         clear k1)
      | (go_at_call 28
         refine (walked_any (HO.out.kp0 K1.out) (by rw [HN.out]; omega)).mono ?_
         rintro e w2 ⟨g, m, _, cnt, rfl, n2, _, _, _, k2⟩
         rw [HT.out] at n2
         have N2 := hid n2
         have K2 := hid (K1.out.trans k2)
         clear n2 k2)
      | (go_at_call 16
         with_reducible refine (under_any (x := 0) HW.out N2.out i0).mono ?_
         rintro e w3 ⟨v3, rfl, o3, k3⟩
         rw [HAL.out] at o3
         obtain ⟨b3, c3, e3, _, _, hcl3, _⟩ := o3.form2 (by rw [HN0.out]; exact hpos)
         rw [HN0.out] at e3 hcl3
         subst e3
         have cj := o3.cellAt (d := (0 : Int)) (j := 0) (i := 0) (by rw [HN0.out]; exact hpos) (by omega)
         rw [HZ.out] at cj
         simp only [zf, Nat.zero_mul, Nat.add_zero] at cj
         have O3 := hid o3
         have N3 := hid (N2.out.kp0 k3)
         have K3 := hid (K2.out.trans k3)
         clear o3 k3))
    go_loopw [6] (fun i wr => ∃ k : Nat, k ≤ n0 ∧ i = .int .i64 (k : Int) ∧ Hid (Kp No w3 wr)) (fun i _ => n0 - (intOf i).toNat)
    case atStart => exact ⟨0, Nat.zero_le _, rfl, hid (Kp.refl _ _)⟩
    case round =>
      obtain ⟨k, hk, rfl, KW⟩ := hrel
      clear cj
      by_cases hkn : k < n0
      · have hkl : k < al.length := by rw [HN0.out]; exact hkn
        have hg2 : (k : Int) < (n0 : Int) := by omega
        have hg3 : (k : Int) ≤ (c3 : Int) := by omega
        have hwk := wrapI (x := (k : Int) + 1) (by unfold I64; omega)
        have HYM := hid (show al.getD k 0 ∈ al by simp [List.getD, hkl])
        have HC := hid (fun (w' : World) (kk : Kp No w3 w') => show w'.cell? ⟨b3, k, none⟩ = some (.int .i64 (al.getD k 0)) from by
          have := (O3.out.kp0 kk).cellAt (d := (0 : Int)) (j := k) (i := 0) hkl (by omega)
          simpa [zf] using this)
        have HNT := hid (not_take HND.out hkl)
        obtain ⟨y, hy⟩ : ∃ y, al.getD k 0 = y := ⟨_, rfl⟩
        rw [hy] at HYM HC HNT
        obtain ⟨qy, hqy⟩ := HIN.out y HYM.out
        have HQY := hid hqy
        have hlowy := HW.out.low hqy
        have hyi : I64 y := by unfold I64; omega
        have hlp := path_le HW.out y
        obtain ⟨ps, hps⟩ : ∃ ps, path T y = ps := ⟨_, rfl⟩
        have HPS := hid hps
        have HST := hid (path_step HW.out hqy)
        have HPN := hid (path_nodup HW.out hqy)
        have HPD := hid (path_len HW.out hqy)
        rw [hps] at hlp HST HPN HPD
        obtain ⟨ly, hly⟩ : ∃ ly, ps.length = ly := ⟨_, rfl⟩
        have HLY := hid hly
        rw [hly] at hlp HST HPD
        have hzz : ((ly : Int) == 0) = (y == 0) := by
          by_cases e : y = 0
          · have : ly = 0 := by rw [HPD.out, e]; exact HW.out.d0
            simp [e, this]
          · have := HW.out.pos hqy e
            have h2 := HPD.out
            have h3 : ¬ ly = 0 := by omega
            have a1 : ((ly : Int) == 0) = false := by rw [beq_eq_false_iff_ne]; omega
            have a2 : (y == 0) = false := by rw [beq_eq_false_iff_ne]; exact e
            rw [a1, a2]
        clear hy hqy hps hly
        have hg4 : ¬ (16 : Int) < (ly : Int) := by omega
        have HDT := hid (show decide (y ∈ al.take k) = false by simp [HNT.out])
        have cy := HC.out wr.drew KW.out.drew
        go_wp2_with fail
        refine region_tail 14 (by kernel_rfl) (by kernel_rfl) ?_
        simp only [List.take_succ_cons, List.take_zero, List.drop_succ_cons, List.drop_zero]
        have KWd := hid KW.out.drew
        generalize wr.drew = wd at cy KWd ⊢
        repeat (first | still_step | (still_call (by simpa only [HDT.out] using (in_any (Rw.cut (Ow.rwp (d := (0 : Int)) (O3.out.kp0 KWd.out)) (Nat.le_of_lt hkl)) y))))
        refine wpStill_nil ?_
        go_wp2_with (first
          | (go_at_call 18
             refine (has_any (N3.out.kp0 KWd.out) hyi).mono ?_
             rintro e w5 ⟨rfl, k5⟩
             rw [HQY.out]
             simp only [Option.isSome_some]
             have K5 := hid (KWd.out.trans k5)
             have cy5 := HC.out w5 K5.out
             clear k5)
          | (go_at_call 26
             refine (path_any HW.out (N3.out.kp0 K5.out) hyi).mono ?_
             rintro e w6 ⟨v6, rfl, o6, k6⟩
             rw [HPS.out] at o6
             obtain ⟨A6, c6, rfl⟩ := o6.formN HLY.out
             have O6 := hid o6
             have K6 := hid (K5.out.trans k6)
             have cy6 := HC.out w6 K6.out
             clear o6 k6))
        go_loopw [8] (fun i wq => ∃ j : Nat, j ≤ ly ∧ i = .int .i64 (j : Int) ∧ Hid (Kp No w6 wq)) (fun i _ => ly - (intOf i).toNat)
        case atStart => exact ⟨0, Nat.zero_le _, rfl, hid (Kp.refl _ _)⟩
        case round =>
          obtain ⟨j, hj, rfl, KQ⟩ := hrel
          clear cy cy5 cy6
          by_cases hjn : j < ly
          · have hjl : j < ps.length := by rw [HLY.out]; exact hjn
            have hg5 : (j : Int) < (ly : Int) := by omega
            obtain ⟨b6, c6', e6, _, hbl6, hcl6, _⟩ := O6.out.form2 (by omega)
            injection e6 with e61 e62 e63
            subst e61 e63
            clear e62
            rw [HLY.out] at hcl6
            have hg6 : (j : Int) ≤ (c6 : Int) := by omega
            have hwj := wrapI (x := (j : Int) + 1) (by unfold I64; omega)
            have HPC := hid (fun (w' : World) (kk : Kp No w6 w') (j : Nat) (hj : j < ps.length) => show w'.cell? ⟨b6, j, none⟩ = some (.int .i64 (ps.getD j 0)) from by
              have := (O6.out.kp0 kk).cellAt (d := (0 : Int)) (j := j) (i := 0) hj (by omega)
              simpa [zf] using this)
            obtain ⟨bq, aq, t1, t2, t3, t4, t5⟩ := HST.out j hjn
            have HPT := hid (not_take (hid HPN.out).out hjl)
            obtain ⟨z, hz⟩ : ∃ z, ps.getD j 0 = z := ⟨_, rfl⟩
            obtain ⟨u, hu⟩ : ∃ u, ps.getD (j + 1) 0 = u := ⟨_, rfl⟩
            rw [hz] at t1 t4 HPT
            rw [hu] at t2 t3
            have HZJ := hid hz
            have HUJ := hid hu
            have hlz := HW.out.low t1
            have hlu := HW.out.low t3
            have hzi : I64 z := by unfold I64; omega
            have hui : I64 u := by unfold I64; omega
            have HPAR := hid (show par T z = u by rw [par_some t1]; exact t2)
            have HKID := hid (show decide (z ∈ kidsT T u) = true by rw [kids_some t3]; simp [t4])
            have HPT2 := hid (show decide (z ∈ ps.take j) = false by simp [HPT.out])
            have huu : (u != u) = false := by simp
            clear t1 t2 t3 t4 t5 hz hu
            by_cases hlast : j + 1 < ly
            · have hg7 : (j : Int) + 1 < (ly : Int) := by omega
              have cu := HPC.out wr KQ.out (j + 1) (by rw [HLY.out]; exact hlast)
              rw [HUJ.out] at cu
              have cu2 : wr.cell? ⟨b6, ((j : Int) + 1).toNat, none⟩ = some (.int .i64 u) := by rw [show ((j : Int) + 1).toNat = j + 1 by omega]; exact cu
              go_wp2_with fail
              have cz := HPC.out wr.drew KQ.out.drew j hjl
              rw [HZJ.out] at cz
              have SZ := hid (show wr.drew.cell? ⟨b6, j, none⟩ = some (.int .i64 z) ∧ SK w6 b6 wr.drew from ⟨cz, ⟨KQ.out.drew, hbl6⟩⟩)
              go_region_held3 (fun w' => w'.cell? ⟨b6, j, none⟩ = some (.int .i64 z) ∧ SK w6 b6 w')
                (first | exact SZ.out | exact SK.step (by assumption) (by assumption) | assumption)
                (first
                  | (go_at_call 29
                     refine (in_any R8.out z).mono ?_
                     rintro e w9 ⟨rfl, rfl⟩
                     rw [HKID.out])
                  | (go_at_call 29
                     refine (in_any (Rw.cut (Ow.rwp (d := (0 : Int)) (O6.out.kp0 (SK.kpa (by assumption)))) (Nat.le_of_lt hjl)) z).mono ?_
                     rintro e w9 ⟨rfl, rfl⟩
                     rw [HPT2.out])
                  | (go_at_call 20
                     refine (parent_any (N3.out.kp0 (K6.out.trans (SK.kpa (by assumption)))) hzi).mono ?_
                     rintro e w7 ⟨rfl, k7⟩
                     rw [HPAR.out])
                  | (go_at_call 24
                     refine (kids_any (N3.out.kp0 (K6.out.trans (SK.kpa (by assumption)))) hui (Nat.le_trans (kids_len HW.out _) (by omega))).mono ?_
                     rintro e w8 ⟨b8, n8, c8, rfl, r8, _, k8⟩
                     have R8 := hid (RowI.rw (S := Anyb) r8 fun _ _ => trivial)
                     unfold gsl at R8 ⊢
                     clear r8))
              go_wp2_with fail
              go_roundw
              case rel => exact ⟨j + 1, by omega, by go_num, hid (SK.kpa (by assumption))⟩
              case measure => simp [intOf]; omega
            · have hg7 : ¬ (j : Int) + 1 < (ly : Int) := by omega
              have hu0 : u = 0 := by
                rw [← HUJ.out]
                simp [List.getD, List.getElem?_eq_none (show ps.length ≤ j + 1 by rw [HLY.out]; omega)]
              subst hu0
              go_wp2_with fail
              have cz := HPC.out wr.drew KQ.out.drew j hjl
              rw [HZJ.out] at cz
              have SZ := hid (show wr.drew.cell? ⟨b6, j, none⟩ = some (.int .i64 z) ∧ SK w6 b6 wr.drew from ⟨cz, ⟨KQ.out.drew, hbl6⟩⟩)
              go_region_held3 (fun w' => w'.cell? ⟨b6, j, none⟩ = some (.int .i64 z) ∧ SK w6 b6 w')
                (first | exact SZ.out | exact SK.step (by assumption) (by assumption) | assumption)
                (first
                  | (go_at_call 29
                     refine (in_any R8.out z).mono ?_
                     rintro e w9 ⟨rfl, rfl⟩
                     rw [HKID.out])
                  | (go_at_call 29
                     refine (in_any (Rw.cut (Ow.rwp (d := (0 : Int)) (O6.out.kp0 (SK.kpa (by assumption)))) (Nat.le_of_lt hjl)) z).mono ?_
                     rintro e w9 ⟨rfl, rfl⟩
                     rw [HPT2.out])
                  | (go_at_call 20
                     refine (parent_any (N3.out.kp0 (K6.out.trans (SK.kpa (by assumption)))) hzi).mono ?_
                     rintro e w7 ⟨rfl, k7⟩
                     rw [HPAR.out])
                  | (go_at_call 24
                     refine (kids_any (N3.out.kp0 (K6.out.trans (SK.kpa (by assumption)))) hui (Nat.le_trans (kids_len HW.out _) (by omega))).mono ?_
                     rintro e w8 ⟨b8, n8, c8, rfl, r8, _, k8⟩
                     have R8 := hid (RowI.rw (S := Anyb) r8 fun _ _ => trivial)
                     unfold gsl at R8 ⊢
                     clear r8))
              go_wp2_with fail
              go_roundw
              case rel => exact ⟨j + 1, by omega, by go_num, hid (SK.kpa (by assumption))⟩
              case measure => simp [intOf]; omega
          · have hkk : j = ly := by omega
            subst hkk
            have hng : ¬ (j : Int) < (j : Int) := by omega
            go_wp2_with fail
            go_roundw
            case rel => exact ⟨k + 1, by omega, by go_num, hid (K6.out.trans KQ.out)⟩
            case measure => simp [intOf]; omega
      · have hkk : k = n0 := by omega
        subst hkk
        have hng : ¬ (k : Int) < (k : Int) := by omega
        go_wp2
        go_ret
        exact ⟨rfl, K3.out.trans KW.out⟩
end Go.Proofs.Ytabampeipfbdjaa

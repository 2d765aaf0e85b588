/-
  The walk of SceneChecks.
-/
import Derived.Test.YtomoiihckbdjdaaGreatZSameI
import Derived.Test.YtomoiihckbdjdaaGreatZOpen
import Derived.BigQuiet
namespace Go.Proofs.YtomoiihckbdjdaaGreat
open Go.RowKit Go.Shelf

theorem few_le {gs : List GS} {ts : List TS} (h : few gs ts = true) : gs.length ≤ 30 ∧ ts.length ≤ 30 := by
  unfold few at h
  simpa using h
theorem ok_tall {g0 : GS} {gt : List GS} {ts : List TS} (h : checkS (g0 :: gt) ts = 0) : ((g0 :: gt).map (·.id)).Nodup ∧ tallI (g0 :: gt) (g0 :: gt).length = (tallG (g0 :: gt) : Int) := by
  obtain ⟨_, h2, h3, h4, h5, _⟩ := check0 h
  have hnd : ((g0 :: gt).map (·.id)).Nodup := (List.nodup_append.1 h3).1
  have hpos : ∀ g ∈ g0 :: gt, g.id ≠ 0 := fun g hg => by
    have hw : wrongG g = false := by
      cases e : wrongG g with
      | false => rfl
      | true => exact absurd (.inl (List.any_eq_true.2 ⟨g, hg, e⟩)) h2
    have := wrongG_bd hw
    omega
  have h0 : g0.par = 0 := by
    unfold lostB at h4
    simp only [Bool.or_eq_true, not_or, bne_iff_ne, ne_eq, Decidable.not_not] at h4
    exact h4.1.1
  have ho : g0 :: gt = orderG (g0 :: gt) := by
    unfold ordB at h5
    simp only [Bool.and_eq_true, decide_eq_true_eq] at h5
    exact h5.1
  exact ⟨hnd, tall_eq hnd hpos h0 (ord_whole hnd hpos h0 ho)⟩
set_option maxRecDepth 100000 in
set_option maxHeartbeats 4000000 in
theorem sceneChecks_walk (w : World) {v : Value} {gs : List GS} {ts : List TS} (h : SnI w v gs ts) :
    Calls Tryz.prog 3 #[v] w fun e w' => e = .returned (.bool true) ∧ Kp No w w' := by
  obtain ⟨hS, hGI, hTI⟩ := h
  obtain ⟨vg, vt, rfl, hg, ht⟩ := id hS
  have hp : ∀ g ∈ gs, I64 g.id ∧ I64 g.par := fun g hg => ⟨(hGI g hg).id, (hGI g hg).par⟩
  have hpt : ∀ t ∈ ts, I64 t.gr := fun t ht => (hTI t ht).gr
  have k0 := (Kp.refl No w).alloc (.cells #[vg, vt] 25)
  have b0 := Blk.new w 25 #[vg, vt]
  obtain ⟨w0, hw0⟩ : ∃ w0, w.alloc (.cells #[vg, vt] 25) = w0 := ⟨_, rfl⟩
  rw [hw0] at k0 b0
  have K0 := hid k0
  have B0 := hid b0
  have HS := hid (hS.kp0 k0)
  obtain ⟨fb, hfb⟩ : ∃ fb, few gs ts = fb := ⟨_, rfl⟩
  obtain ⟨ce, hce⟩ : ∃ ce, checkS gs ts = ce := ⟨_, rfl⟩
  have HF := hid (fun (W : World) (k : Kp No w0 W) => show Calls Tryz.prog 7 #[.agg #[vg, vt]] W (fun e w' => e = .returned (.bool fb) ∧ Kp No W w') from hfb ▸ zfew_any (HS.out.kp0 k))
  have HC := hid (fun (W : World) (k : Kp No w0 W) => show Calls Tryz.prog 9 #[.agg #[vg, vt]] W (fun e w' => e = .returned (.int .i64 ce) ∧ Kp No W w') from hce ▸ zcheck_any (HS.out.kp0 k) hp hpt)
  have HD := hid (fun (W : World) (k : Kp No w0 W) => show Calls Tryz.prog 8 #[.agg #[vg, vt]] W (fun e w' => e = .returned (.int .i64 ce) ∧ Kp No W w') from hce ▸ rcheck_any (HS.out.kp0 k))
  have HCE := hid hce
  have HFB := hid hfb
  have HP := hid hp
  obtain ⟨A, c, rfl, _⟩ := hg
  obtain ⟨A2, c2, rfl, _⟩ := ht
  obtain ⟨n, hn⟩ : ∃ n, gs.length = n := ⟨_, rfl⟩
  obtain ⟨m, hm⟩ : ∃ m, ts.length = m := ⟨_, rfl⟩
  rw [hn] at HS HF HC HD hw0 B0 b0 ⊢
  rw [hm] at HS HF HC HD hw0 B0 b0 ⊢
  have HN := hid hn
  have HM := hid hm
  have RDX := hid (fun (W : World) (k : Kp No w0 W) => show W.cell? ⟨w.heap.size, 0, none⟩ = some (.slice A n c) ∧ W.cell? ⟨w.heap.size, 1, none⟩ = some (.slice A2 m c2) from ⟨(B0.out.kp0 k).cell 0, (B0.out.kp0 k).cell 1⟩)
  have hbx := b0.lt
  clear hS hGI hTI hp hpt k0 b0 hfb hce hn hm
  cases fb
  · go_enter Tryz.func3, Tryz.ntmps3
    go_upto_region 1 with fail
    clear hw0
    go_wp2_with (first
      | (go_at_call 6
         with_reducible refine (zawake_any w0).mono ?_
         rintro e w1 ⟨rfl, k1⟩
         have K1 := hid k1
         obtain ⟨s10, s11⟩ := RDX.out _ k1
         clear k1)
      | (go_at_call 7
         with_reducible refine (HF.out _ K1.out).mono ?_
         rintro e w2 ⟨rfl, k2⟩
         have K2 := hid (K1.out.trans k2)
         clear k2))
    go_ret
    exact ⟨rfl, K0.out.trans K2.out⟩
  obtain ⟨hfl, hfm⟩ := few_le HFB.out
  have HI := hid (fun (W : World) (k : Kp No w0 W) => ids_any (HS.out.kp0 k) (by omega) (by omega))
  have HJ := hid (fun (W : World) (k : Kp No w0 W) => rids_any (HS.out.kp0 k) (by omega) (by omega))
  have HIL := hid (show (idsOf gs ts).length ≤ 1000000 by unfold idsOf; rw [List.length_append, List.length_map, List.length_map]; omega)
  have hcc : (ce != ce) = false := by simp
  have HFL := hid hfl
  clear hfl hfm
  go_enter Tryz.func3, Tryz.ntmps3
  go_upto_region 1 with fail
  clear hw0
  go_upto_region 6 with (first
    | (go_at_call 6
       with_reducible refine (zawake_any w0).mono ?_
       rintro e w1 ⟨rfl, k1⟩
       have K1 := hid k1
       obtain ⟨s10, s11⟩ := RDX.out _ k1
       clear k1)
    | (go_at_call 7
       with_reducible refine (HF.out _ K1.out).mono ?_
       rintro e w2 ⟨rfl, k2⟩
       have K2 := hid (K1.out.trans k2)
       obtain ⟨s20, s21⟩ := RDX.out _ (K1.out.trans k2)
       clear k2)
    | (go_at_call 8
       with_reducible refine (HD.out _ K2.out).mono ?_
       rintro e w3 ⟨rfl, k3⟩
       have K3' := hid (K2.out.trans k3)
       obtain ⟨s30, s31⟩ := RDX.out _ (K2.out.trans k3)
       clear k3))
  have SZ := hid (show w3.cell? ⟨w.heap.size, 0, none⟩ = some (.slice A n c) ∧ w3.cell? ⟨w.heap.size, 1, none⟩ = some (.slice A2 m c2) ∧ w3.cell? ⟨w.heap.size, 0, none⟩ = some (.slice A n c) ∧ K3 w0 ⟨w.heap.size, 0, none⟩ ⟨w.heap.size, 1, none⟩ ⟨w.heap.size, 0, none⟩ w3 from
    ⟨s30, s31, s30, by show w.heap.size < w3.heap.size; have := K3'.out.size; omega, by show w.heap.size < w3.heap.size; have := K3'.out.size; omega, by show w.heap.size < w3.heap.size; have := K3'.out.size; omega, K3'.out⟩)
  go_cut [25] (fun s wx => s = .bool false ∧ Hid (Kp No w0 wx))
  case first =>
    go_region_held3 (fun w' => w'.cell? ⟨w.heap.size, 0, none⟩ = some (.slice A n c) ∧ w'.cell? ⟨w.heap.size, 1, none⟩ = some (.slice A2 m c2) ∧ w'.cell? ⟨w.heap.size, 0, none⟩ = some (.slice A n c) ∧ K3 w0 ⟨w.heap.size, 0, none⟩ ⟨w.heap.size, 1, none⟩ ⟨w.heap.size, 0, none⟩ w')
      (first | exact SZ.out | exact K3.step SZ.out (Kp.refl _ _).drew | exact K3.step (by assumption) (by assumption) | assumption)
      (first
        | (go_at_call 9
           with_reducible refine (HC.out _ (K3.kp (by assumption))).mono ?_
           rintro e w6 ⟨rfl, k6⟩
           have K6 := hid ((K3'.out.drew).trans k6))
        | (go_at_call 11
           with_reducible refine (HI.out _ (K3.kp (by assumption))).mono ?_
           rintro e w7 ⟨u7, rfl, o7, k7⟩
           have K7 := hid (K6.out.trans k7)
           have O7 := hid (o7.rwp (d := (0 : Int))).any
           clear o7)
        | (go_at_call 12
           with_reducible refine (HJ.out _ (K3.kp (by assumption))).mono ?_
           rintro e w8 ⟨u8, rfl, o8, k8⟩
           have K8 := hid (K7.out.trans k8)
           have O8 := hid (o8.rwp (d := (0 : Int))).any
           have O78 := hid (O7.out.kp0 k8)
           clear o8)
        | (go_at_call 10
           with_reducible refine (rsameI_any (xs := idsOf gs ts) (ys := idsOf gs ts) O78.out O8.out HIL.out).mono ?_
           rw [decide_eq_true rfl]
           rintro e w9 ⟨rfl, k9⟩
           have K9 := hid (K8.out.trans k9)))
    all_goals (
      (try go_wp2_with fail)
      go_meet
      exact ⟨rfl, K9⟩)
  case rest =>
    obtain ⟨rfl, HK9⟩ := hcut
    obtain ⟨w9, hw9⟩ : ∃ w9, wc = w9 := ⟨_, rfl⟩
    rw [hw9] at HK9 ⊢
    obtain ⟨s90, s91⟩ := RDX.out _ HK9.out
    have SZ9 := hid (show w9.cell? ⟨w.heap.size, 0, none⟩ = some (.slice A n c) ∧ w9.cell? ⟨w.heap.size, 1, none⟩ = some (.slice A2 m c2) ∧ w9.cell? ⟨w.heap.size, 0, none⟩ = some (.slice A n c) ∧ K3 w0 ⟨w.heap.size, 0, none⟩ ⟨w.heap.size, 1, none⟩ ⟨w.heap.size, 0, none⟩ w9 from
      ⟨s90, s91, s90, by show w.heap.size < w9.heap.size; have := HK9.out.size; omega, by show w.heap.size < w9.heap.size; have := HK9.out.size; omega, by show w.heap.size < w9.heap.size; have := HK9.out.size; omega, HK9.out⟩)
    clear hw9
    by_cases hc0 : ce = 0
    rotate_left
    · have d0 : (ce != 0) = true := by simp [hc0]
      clear hc0
      go_upto_region 8 with fail
      go_quiet (fail)
      go_wp2_with fail
      go_ret
      exact ⟨rfl, K0.out.trans (HK9.out.drewN _)⟩
    · subst hc0
      obtain ⟨g0, gt, he⟩ : ∃ g0 gt, gs = g0 :: gt := by
        cases hgs : gs with
        | nil =>
          have h2 := HCE.out
          rw [hgs] at h2
          have h2 : (2 : Int) = 0 := h2
          exact absurd h2 (by decide)
        | cons a b => exact ⟨a, b, rfl⟩
      have hot : (gs.map (·.id)).Nodup ∧ tallI gs gs.length = (tallG gs : Int) := by
        have h2 := HCE.out
        rw [he] at h2 ⊢
        exact ok_tall h2
      have HT := hid (fun (W : World) (k : Kp No w0 W) => tall_any (HS.out.kp0 k) (by have := HFL.out; omega) HP.out hot.1)
      have HU := hid (fun (W : World) (k : Kp No w0 W) => rztall_any (HS.out.kp0 k) (by have := HFL.out; omega))
      rw [hot.2] at HU
      obtain ⟨tg, htg⟩ : ∃ tg, tallG gs = tg := ⟨_, rfl⟩
      rw [htg] at HT HU
      have htt : ((tg : Int) == (tg : Int)) = true := by simp
      clear he hot htg
      go_upto_region 8 with fail
      go_region_held3 (fun w' => w'.cell? ⟨w.heap.size, 0, none⟩ = some (.slice A n c) ∧ w'.cell? ⟨w.heap.size, 1, none⟩ = some (.slice A2 m c2) ∧ w'.cell? ⟨w.heap.size, 0, none⟩ = some (.slice A n c) ∧ K3 w0 ⟨w.heap.size, 0, none⟩ ⟨w.heap.size, 1, none⟩ ⟨w.heap.size, 0, none⟩ w')
        (first | exact SZ9.out | exact K3.step SZ9.out (Kp.refl _ _).drew | exact K3.step (by assumption) (by assumption) | assumption)
        (first
          | (go_at_call 13
             with_reducible refine (HT.out _ (K3.kp (by assumption))).mono ?_
             rintro e w10 ⟨rfl, k10⟩
             have K10 := hid ((HK9.out.drew).trans k10))
          | (go_at_call 14
             with_reducible refine (HU.out _ (K3.kp (by assumption))).mono ?_
             rintro e w11 ⟨rfl, k11⟩
             have K11 := hid (K10.out.trans k11)))
      all_goals (
        (try go_wp2_with fail)
        go_ret
        exact ⟨by first | rfl | simp, K0.out.trans K11.out⟩)
end Go.Proofs.YtomoiihckbdjdaaGreat

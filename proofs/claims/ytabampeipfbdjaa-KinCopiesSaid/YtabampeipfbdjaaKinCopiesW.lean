/-
  The walk of KinCopies.
-/
import Derived.Test.YtabampeipfbdjaaNCopy
import Derived.Test.YtabampeipfbdjaaKinMovesW
import Derived.Deep.DeepCutAuto
import Derived.Deep.CutRange
import Derived.Deep.RegionHeld3
namespace Go.Proofs.Ytabampeipfbdjaa
open Go.RowKit

def vInt : Value → Int
  | .int _ x => x
  | _ => 0
/-- Two blocks that stay, and all from there on. -/
structure SKK (w6 : World) (b6 b7 : Nat) (w : World) : Prop where
  kp : Kp No w6 w
  l6 : b6 < w6.heap.size
  l7 : b7 < w6.heap.size
section
variable {w6 w w' : World} {b6 b7 j i : Nat} {u v : Value}
theorem SKK.kpa (h : w.cell? ⟨b6, j, none⟩ = some u ∧ w.cell? ⟨b7, i, none⟩ = some v ∧ SKK w6 b6 b7 w) : Kp No w6 w := h.2.2.kp
theorem SKK.step (h : w.cell? ⟨b6, j, none⟩ = some u ∧ w.cell? ⟨b7, i, none⟩ = some v ∧ SKK w6 b6 b7 w) (k : Kp No w w') : w'.cell? ⟨b6, j, none⟩ = some u ∧ w'.cell? ⟨b7, i, none⟩ = some v ∧ SKK w6 b6 b7 w' :=
  ⟨(k.cell (p := ⟨b6, j, none⟩) (Nat.lt_of_lt_of_le h.2.2.l6 h.2.2.kp.size) id).trans h.1, (k.cell (p := ⟨b7, i, none⟩) (Nat.lt_of_lt_of_le h.2.2.l7 h.2.2.kp.size) id).trans h.2.1, ⟨h.2.2.kp.trans k, h.2.2.l6, h.2.2.l7⟩⟩
end
theorem WT.take (T : Tre) (D : Int → Nat) (W : WT T D) (os : List Kop) (k : Nat) : ∃ D', WT ((os.take k).foldl doT T) D' := WT.fold _ T D W
set_option maxHeartbeats 4000000 in
set_option maxRecDepth 100000 in
theorem kinCopies_walk (w : World) (os ms : List Kop) {v u : Value} (h : Kops w Anyb v os) (h' : Kops w Anyb u ms) :
    Calls Try.prog 7 #[v, u] w fun e w' => e = .returned (.bool true) ∧ Kp No w w' := by
  have HO := hid h
  have HM := hid h'
  obtain ⟨A, c, rfl, hc, hm, _⟩ := h.rw
  obtain ⟨A', c', rfl, hc', hm', _⟩ := h'.rw
  unfold maxLen at hm hm'
  obtain ⟨n, hn⟩ : ∃ n, os.length = n := ⟨_, rfl⟩
  obtain ⟨nm, hnm⟩ : ∃ nm, ms.length = nm := ⟨_, rfl⟩
  have HN := hid hn
  have HNM := hid hnm
  rw [hn] at hc HO ⊢
  rw [hnm] at hc' HM ⊢
  clear hn h hnm h'
  by_cases hl : 60 < n
  · have g1 : (60 : Int) < (n : Int) := by omega
    go_enter Try.func7, Try.ntmps7
    go_wp2_with (first
      | (go_at_call 9
         refine (awake_any w).mono ?_
         rintro e w1 ⟨rfl, k1⟩
         have K1 := hid k1
         clear k1))
    go_ret
    exact ⟨rfl, K1.out⟩
  · have g1 : ¬ (60 : Int) < (n : Int) := by omega
    by_cases hl2 : 60 < nm
    · have g2 : (60 : Int) < (nm : Int) := by omega
      go_enter Try.func7, Try.ntmps7
      go_wp2_with (first
        | (go_at_call 9
           refine (awake_any w).mono ?_
           rintro e w1 ⟨rfl, k1⟩
           have K1 := hid k1
           clear k1))
      go_ret
      exact ⟨rfl, K1.out⟩
    · have g2 : ¬ (60 : Int) < (nm : Int) := by omega
      obtain ⟨D, W⟩ := WT.fold os newT _ WT.new
      obtain ⟨T, hT⟩ : ∃ T, os.foldl doT newT = T := ⟨_, rfl⟩
      rw [hT] at W
      have HT := hid hT
      have HW := hid W
      have i0 : I64 0 := by unfold I64; omega
      obtain ⟨k0, h0⟩ := W.top
      obtain ⟨al, hal⟩ : ∃ al, under T 0 = al := ⟨_, rfl⟩
      have hb0 := under_len W 0
      obtain ⟨n0, hn0⟩ : ∃ n0, al.length = n0 := ⟨_, rfl⟩
      rw [hal, hn0] at hb0
      have HN0 := hid hn0
      have HAL := hid hal
      have HIN := hid (fun y (hy : y ∈ al) => show ∃ a, T y = some a from ((mem_under W h0).1 (by rw [hal]; exact hy)).1)
      have HTK := hid (fun k => WT.take T D W ms k)
      clear hT W h0 hal hn0
      go_enter Try.func7, Try.ntmps7
      go_wp2_with (first
        | (go_at_call 9
           refine (awake_any w).mono ?_
           rintro e w1 ⟨rfl, k1⟩
           have K1 := hid k1
           clear k1)
        | (go_at_call 28
           refine (walked_any (HO.out.kp0 K1.out) (by rw [HN.out]; omega)).mono ?_
           rintro e w2 ⟨g, m, _, cnt, rfl, n2, _, c2, l2, k2⟩
           rw [HT.out] at n2 c2
           rw [HN.out] at l2
           have N2 := hid n2.narrow
           have C2 := hid c2
           have L2 := hid (show cnt ≤ 61 by omega)
           have K2 := hid (K1.out.trans k2)
           have Z2 := hid k2.size
           clear n2 c2 l2 k2)
        | (go_at_call 31
           with_reducible refine (copy_any HW.out N2.out C2.out (by have := L2.out; omega)).mono ?_
           rintro e w3 ⟨g', m', rfl, n3, k3⟩
           have N3 := hid n3.narrow
           have T3 := hid (N2.out.kp0 k3)
           have K3 := hid (K2.out.trans k3)
           have Z3 := hid k3.size
           clear n3 k3)
        | (go_at_call 16
           with_reducible refine (under_any (x := 0) HW.out T3.out i0).mono ?_
           rintro e w4 ⟨v4, rfl, o4, k4⟩
           rw [HAL.out] at o4
           obtain ⟨A4, c4, rfl⟩ := o4.formN HN0.out
           have O4 := hid (Ow.rwp (d := (0 : Int)) o4)
           have T4 := hid (T3.out.kp0 k4)
           have N4 := hid (Kn.mono (S' := fun i => (w2.heap.size ≤ i ∧ i < w3.heap.size) ∨ w4.heap.size ≤ i) (N3.out.kp0 k4) fun i hi => .inl hi)
           have K4 := hid (K3.out.trans k4)
           have Z4 := hid k4.size
           clear o4 k4))
      go_loopw [9] (fun i wr => ∃ k : Nat, k ≤ nm ∧ i = .int .i64 (k : Int) ∧ Hid (∃ cntc, Kn wr (fun i => (w2.heap.size ≤ i ∧ i < w3.heap.size) ∨ w4.heap.size ≤ i) g' m' ((ms.take k).foldl doT T) cntc ∧ Cn ((ms.take k).foldl doT T) cntc ∧ cntc ≤ 61 + k) ∧ Hid (Kp (fun i => (w2.heap.size ≤ i ∧ i < w3.heap.size) ∨ w4.heap.size ≤ i) w4 wr)) (fun i _ => nm - (vInt i).toNat)
      case atStart => exact ⟨0, Nat.zero_le _, rfl, hid ⟨cnt, N4.out, C2.out, L2.out⟩, hid (Kp.refl _ _)⟩
      case round =>
        obtain ⟨k, hk, rfl, HC, KW⟩ := hrel
        have KWW := hid (K4.out.step KW.out fun i hi e => by have := K1.out.size; have := Z2.out; have := Z3.out; have := Z4.out; omega)
        by_cases hkn : k < nm
        · have hkl : k < ms.length := by rw [HNM.out]; exact hkn
          obtain ⟨b, o, rfl, ok, hcell⟩ := (HM.out.kp0 KWW.out).at' hkl
          have HS := hid (take_s ms hkl kop0)
          generalize ms.getD k kop0 = z at ok hcell HS
          have c0 := hcell 0 (by omega)
          have c1 := hcell 1 (by omega)
          have c2 := hcell 2 (by omega)
          simp only [kc, Nat.add_zero] at c0 c1 c2
          have OK := hid ok
          have hg1 : (k : Int) < (nm : Int) := by omega
          have hsum := wrapI (x := (k : Int) + 1) (by unfold I64; omega)
          obtain ⟨D', W'⟩ := HTK.out k
          obtain ⟨cntc, t1, t3, t4⟩ := HC.out
          have T1 := hid t1
          have T2 := hid W'
          have T3' := hid t3
          have T4' := hid t4
          have HE := hid (show (ms.take (k + 1)).foldl doT T = doT ((ms.take k).foldl doT T) z by rw [HS.out, List.foldl_append]; rfl)
          clear t1 t3 t4 ok hcell W'
          go_wp2_with (first
            | (go_at_call 11
               refine (do_any (o := z) T2.out T1.out T3'.out (fun i hi => .inr (Nat.le_trans KW.out.size hi)) OK.out (by have := T4'.out; omega)).mono ?_
               rintro e w5 ⟨rfl, ⟨c5, hc5, hl5, n5⟩, k5⟩
               rw [← HE.out] at hc5 n5
               have N5 := hid n5
               have C5 := hid (And.intro hc5 hl5)
               have KP5 := hid (KW.out.trans k5)
               clear n5 hc5 hl5 k5))
          go_roundw
          case rel => exact ⟨k + 1, by omega, by go_num, hid ⟨c5, N5.out, C5.out.1, by have := C5.out.2; have := T4'.out; omega⟩, KP5⟩
          case measure => simp [vInt]; omega
        · have hkk : k = nm := by omega
          subst hkk
          have hng : ¬ (k : Int) < (k : Int) := by omega
          have HCC := hid (show ∃ cntc, Kn wr (fun i => ((w2.heap.size ≤ i ∧ i < w3.heap.size) ∨ w4.heap.size ≤ i) ∧ i < wr.heap.size) g' m' (ms.foldl doT T) cntc by
            obtain ⟨cntc, t1, _, _⟩ := HC.out
            rw [List.take_of_length_le (by rw [HNM.out]; omega)] at t1
            exact ⟨cntc, t1.narrow⟩)
          have T5 := hid (T4.out.kp KW.out fun i hi e => by have := Z3.out; have := Z4.out; omega)
          have O5 := hid (O4.out.kp KW.out fun i _ hi e => by have := Z3.out; have := Z4.out; omega)
          obtain ⟨cntc, nc⟩ := HCC.out
          have NC := hid nc
          have Z5 := hid KW.out.size
          clear HC nc
          obtain ⟨w5, hw5⟩ : ∃ w5, wr = w5 := ⟨_, rfl⟩
          rw [hw5] at NC T5 O5 KWW Z5 ⊢
          clear hw5
          go_wp2_with (first
            | (go_at_call 16
               with_reducible refine (under_any (x := 0) HW.out T5.out i0).mono ?_
               rintro e w6 ⟨v6, rfl, o6, k6⟩
               rw [HAL.out] at o6
               have O6 := hid (Ow.rwp (d := (0 : Int)) o6)
               have O56 := hid (O5.out.kp0 k6)
               have T6 := hid (T5.out.kp0 k6)
               have N6 := hid (NC.out.kp0 k6)
               have K6 := hid (KWW.out.trans k6)
               have Z6 := hid k6.size
               clear o6 k6)
            | (go_at_call 15
               with_reducible refine (sameI_any _ _ al al w6 O6.out.sl O56.out.sl).mono ?_
               rintro e w7' ⟨rfl, q7, rfl⟩
               have O7 := hid (O56.out.kp0 ((Kp.refl No w6).drewN q7))
               have T7 := hid (T6.out.kp0 ((Kp.refl No w6).drewN q7))
               have N7 := hid (N6.out.kp0 ((Kp.refl No w6).drewN q7))
               have K7 := hid (K6.out.trans ((Kp.refl No w6).drewN q7))
               have Z7 := hid (show w6.heap.size ≤ (w6.drewN q7).heap.size from Nat.le_refl _)))
          obtain ⟨w7, hw7⟩ : ∃ w7, w6.drewN q7 = w7 := ⟨_, rfl⟩
          rw [hw7] at O7 T7 N7 K7 Z7 ⊢
          clear hw7
          go_loopw [10] (fun i wr => ∃ k : Nat, k ≤ n0 ∧ i = .int .i64 (k : Int) ∧ Hid (Kp No w7 wr)) (fun i _ => n0 - (vInt i).toNat)
          case atStart => exact ⟨0, Nat.zero_le _, rfl, hid (Kp.refl _ _)⟩
          case round =>
            obtain ⟨i, hi, rfl, KI⟩ := hrel
            by_cases hin : i < n0
            · have hil : i < al.length := by rw [HN0.out]; exact hin
              have hg3 : (i : Int) < (n0 : Int) := by omega
              have hwi := wrapI (x := (i : Int) + 1) (by unfold I64; omega)
              have HYM := hid (show al.getD i 0 ∈ al by simp [List.getD, hil])
              obtain ⟨b8, o8, e8⟩ := O7.out.there (by omega)
              have HB8 := hid (show b8 < w7.heap.size by
                obtain ⟨_, _, he, _, _, hx⟩ := O7.out
                obtain ⟨b9, o9, h9, h10, _⟩ := hx (by omega)
                injection he with e1 _ _
                rw [e8, h9] at e1
                cases e1
                exact h10)
              have HC := hid (fun (w' : World) (kk : Kp No w7 w') => show w'.cell? ⟨b8, o8 + i, none⟩ = some (.int .i64 (al.getD i 0)) from by
                have := (O7.out.kp0 kk).cell (i := 0) (Kp.refl No w') hil (by omega) e8
                simpa [zf] using this)
              subst e8
              obtain ⟨y, hy⟩ : ∃ y, al.getD i 0 = y := ⟨_, rfl⟩
              rw [hy] at HYM HC
              obtain ⟨qy, hqy⟩ := HIN.out y HYM.out
              have HQY := hid hqy
              have hlowy := HW.out.low hqy
              have hyi : I64 y := by unfold I64; omega
              have hkl := kids_len HW.out y
              obtain ⟨ks, hks⟩ : ∃ ks, kidsT T y = ks := ⟨_, rfl⟩
              rw [hks] at hkl
              have HKS := hid hks
              obtain ⟨nk, hnk⟩ : ∃ nk, ks.length = nk := ⟨_, rfl⟩
              rw [hnk] at hkl
              have HNK := hid hnk
              have cy := HC.out wr KI.out
              clear hy hqy hks hnk
              go_wp2_with (first
                | (go_at_call 24
                   refine (kids_any (T7.out.kp0 KI.out) hyi (by rw [HKS.out, HNK.out]; omega)).mono ?_
                   rintro e w8 ⟨bk, nk', ck, rfl, r8, _, k8⟩
                   rw [HKS.out] at r8
                   have hnk' := r8.1
                   rw [HNK.out] at hnk'
                   subst hnk'
                   have R8 := hid r8
                   unfold gsl
                   have K8 := hid (KI.out.trans k8)
                   clear k8 r8))
              go_loopw [12] (fun i wr => ∃ j : Nat, j ≤ nk' ∧ i = .int .i64 (j : Int) ∧ Hid (Kp No w8 wr)) (fun i _ => nk' - (vInt i).toNat)
              case atStart => exact ⟨0, Nat.zero_le _, rfl, hid (Kp.refl _ _)⟩
              case round =>
                obtain ⟨j, hj, rfl, KJ⟩ := hrel
                clear cy
                by_cases hjn : j < nk'
                · have hjl : j < ks.length := by rw [HNK.out]; exact hjn
                  have hg4 : (j : Int) < (nk' : Int) := by omega
                  have hwj := wrapI (x := (j : Int) + 1) (by unfold I64; omega)
                  have HZM := hid (show ks.getD j 0 ∈ ks by simp [List.getD, hjl])
                  obtain ⟨bb, rfl⟩ : ∃ bb, bk = some bb := by
                    cases bk with
                    | none =>
                      obtain ⟨_, _, e⟩ := R8.out.none_nil
                      rw [e] at hjl
                      simp at hjl
                    | some bb => exact ⟨bb, rfl⟩
                  have HBB := hid R8.out.lt
                  have cz := (R8.out.kp0 KJ.out.drew).cell hjl
                  have cw := HC.out wr.drew (K8.out.trans KJ.out.drew)
                  obtain ⟨z, hz⟩ : ∃ z, ks.getD j 0 = z := ⟨_, rfl⟩
                  rw [hz] at HZM cz
                  obtain ⟨kz, hkz⟩ := (HW.out.kid y qy HQY.out z).1 (by rw [← kids_some HQY.out, HKS.out]; exact HZM.out)
                  have hlz := HW.out.low hkz
                  have hzi : I64 z := by unfold I64; omega
                  have HPZ := hid (par_some hkz)
                  have hyy : (y != y) = false := by simp
                  have SZ := hid (show wr.drew.cell? ⟨bb, j, none⟩ = some (.int .i64 z) ∧ wr.drew.cell? ⟨b8, o8 + i, none⟩ = some (.int .i64 y) ∧ SKK w8 bb b8 wr.drew from ⟨cz, cw, ⟨KJ.out.drew, HBB.out, by have := HB8.out; have := K8.out.size; omega⟩⟩)
                  clear hz hkz
                  unfold ga
                  simp only [Option.map_some]
                  go_wp2_with fail
                  go_region_held3 (fun w' => w'.cell? ⟨bb, j, none⟩ = some (.int .i64 z) ∧ w'.cell? ⟨b8, o8 + i, none⟩ = some (.int .i64 y) ∧ SKK w8 bb b8 w')
                    (first | exact SZ.out | exact SKK.step (by assumption) (by assumption) | assumption)
                    (first
                      | (go_at_call 20
                         refine (parent_any (T7.out.kp0 (K8.out.trans (SKK.kpa (by assumption)))) hzi).mono ?_
                         rintro e w9 ⟨rfl, k9⟩
                         rw [HPZ.out]))
                  go_wp2_with fail
                  go_roundw
                  case rel => exact ⟨j + 1, by omega, by go_num, hid (SKK.kpa (by assumption))⟩
                  case measure => simp [vInt]; omega
                · have hkk : j = nk' := by omega
                  subst hkk
                  have hng : ¬ (j : Int) < (j : Int) := by omega
                  go_wp2_with fail
                  go_roundw
                  case rel => exact ⟨i + 1, by omega, by go_num, hid (K8.out.trans KJ.out)⟩
                  case measure => simp [vInt]; omega
            · have hkk : i = n0 := by omega
              subst hkk
              have hng : ¬ (i : Int) < (i : Int) := by omega
              have K8 := hid (K7.out.trans KI.out)
              have T8 := hid (Kn.mono (S' := fun i => (w1.heap.size ≤ i ∧ i < w2.heap.size) ∨ wr.heap.size ≤ i) (T7.out.kp0 KI.out) fun i hi => .inl hi)
              have N8 := hid (N7.out.kp0 KI.out)
              have Z8 := hid KI.out.size
              obtain ⟨w8, hw8⟩ : ∃ w8, wr = w8 := ⟨_, rfl⟩
              rw [hw8] at T8 N8 K8 Z8 ⊢
              clear hw8
              go_wp2_with fail
              go_loopw [13] (fun i wr => ∃ q : Nat, q ≤ k ∧ i = .int .i64 (q : Int) ∧ Hid (∃ cntc, Kn wr (fun i => (w1.heap.size ≤ i ∧ i < w2.heap.size) ∨ w8.heap.size ≤ i) g m ((ms.take q).foldl doT T) cntc ∧ Cn ((ms.take q).foldl doT T) cntc ∧ cntc ≤ 61 + q) ∧ Hid (Kp (fun i => (w1.heap.size ≤ i ∧ i < w2.heap.size) ∨ w8.heap.size ≤ i) w8 wr)) (fun i _ => k - (vInt i).toNat)
              case atStart => exact ⟨0, Nat.zero_le _, rfl, hid ⟨cnt, T8.out, C2.out, L2.out⟩, hid (Kp.refl _ _)⟩
              case round =>
                obtain ⟨q, hq, rfl, HC, KW⟩ := hrel
                have KWW2 := hid (K8.out.step KW.out fun i hi e => by have := K1.out.size; have := Z2.out; have := Z3.out; have := Z4.out; have := Z5.out; have := Z6.out; have := Z7.out; have := Z8.out; omega)
                by_cases hqn : q < k
                · have hkl : q < ms.length := by rw [HNM.out]; exact hqn
                  obtain ⟨b, o, rfl, ok, hcell⟩ := (HM.out.kp0 KWW2.out).at' hkl
                  have HS := hid (take_s ms hkl kop0)
                  generalize ms.getD q kop0 = z at ok hcell HS
                  have c0 := hcell 0 (by omega)
                  have c1 := hcell 1 (by omega)
                  have c2 := hcell 2 (by omega)
                  simp only [kc, Nat.add_zero] at c0 c1 c2
                  have OK := hid ok
                  have hg1 : (q : Int) < (k : Int) := by omega
                  have hsum := wrapI (x := (q : Int) + 1) (by unfold I64; omega)
                  obtain ⟨D', W'⟩ := HTK.out q
                  obtain ⟨cntc, t1, t3, t4⟩ := HC.out
                  have U1 := hid t1
                  have U2 := hid W'
                  have U3 := hid t3
                  have U4 := hid t4
                  have HE := hid (show (ms.take (q + 1)).foldl doT T = doT ((ms.take q).foldl doT T) z by rw [HS.out, List.foldl_append]; rfl)
                  clear t1 t3 t4 ok hcell W'
                  go_wp2_with (first
                    | (go_at_call 11
                       refine (do_any (o := z) U2.out U1.out U3.out (fun i hi => .inr (Nat.le_trans KW.out.size hi)) OK.out (by have := U4.out; omega)).mono ?_
                       rintro e w9 ⟨rfl, ⟨c9, hc9, hl9, n9⟩, k9⟩
                       rw [← HE.out] at hc9 n9
                       have N9 := hid n9
                       have C9 := hid (And.intro hc9 hl9)
                       have KP9 := hid (KW.out.trans k9)
                       clear n9 hc9 hl9 k9))
                  go_roundw
                  case rel => exact ⟨q + 1, by omega, by go_num, hid ⟨c9, N9.out, C9.out.1, by have := C9.out.2; have := U4.out; omega⟩, KP9⟩
                  case measure => simp [vInt]; omega
                · have hkk : q = k := by omega
                  subst hkk
                  have hng : ¬ (q : Int) < (q : Int) := by omega
                  obtain ⟨cntt, t1, _, _⟩ := HC.out
                  obtain ⟨D', W'⟩ := HTK.out q
                  have htk : ms.take q = ms := List.take_of_length_le (by rw [HNM.out]; omega)
                  rw [htk] at t1 W'
                  have N9 := hid (N8.out.kp KW.out fun i hi e => by have := Z2.out; have := Z3.out; have := Z4.out; have := Z5.out; have := Z6.out; have := Z7.out; have := Z8.out; omega)
                  have T9 := hid t1
                  obtain ⟨T', hT'⟩ : ∃ T', ms.foldl doT T = T' := ⟨_, rfl⟩
                  rw [hT'] at T9 N9 W'
                  have HW' := hid W'
                  clear HC t1 W' htk hT'
                  obtain ⟨w9, hw9⟩ : ∃ w9, wr = w9 := ⟨_, rfl⟩
                  rw [hw9] at T9 N9 KWW2 ⊢
                  clear hw9
                  go_wp2_with (first
                    | (go_at_call 16
                       with_reducible refine (under_any (x := 0) HW'.out T9.out i0).mono ?_
                       rintro e wa ⟨va, rfl, oa, ka⟩
                       have OA := hid (Ow.rwp (d := (0 : Int)) oa)
                       have NA := hid (N9.out.kp0 ka)
                       have KA := hid (KWW2.out.trans ka)
                       clear oa ka)
                    | (go_at_call 16
                       with_reducible refine (under_any (x := 0) HW'.out NA.out i0).mono ?_
                       rintro e wb ⟨vb, rfl, ob, kb⟩
                       have OB := hid (Ow.rwp (d := (0 : Int)) ob)
                       have OAB := hid (OA.out.kp0 kb)
                       have KB := hid (KA.out.trans kb)
                       clear ob kb)
                    | (go_at_call 15
                       with_reducible refine (sameI_any _ _ (under T' 0) (under T' 0) wb OAB.out.sl OB.out.sl).mono ?_
                       rintro e wc ⟨rfl, qc, rfl⟩
                       have KC := hid (KB.out.trans ((Kp.refl No wb).drewN qc))))
                  go_ret
                  exact ⟨rfl, KC.out⟩
end Go.Proofs.Ytabampeipfbdjaa

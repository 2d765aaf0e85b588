/-
  Contract of the program's turn: a head is written and flushed.
-/
import Derived.Test.YtgfkbkonelphaaaGreatDoorSlKA
import Derived.Deep.DeepFit
namespace Go.Proofs.YtgfkbkonelphaaaGreatDoor
open Go.RowKit

section
variable {w w' : World} {P S : Nat → Prop} {q g b m h a N : Nat} {s : Ds} {has qb : Bool} {img I xs : List Int} {v iv : Value}
set_option maxRecDepth 100000 in
set_option maxHeartbeats 2000000 in
theorem turn_any (h0 : Dk w g b m s) (hs : Str w q g b m h a has img) (ht : Tab w) (hn : 2 ≤ s.k.length) (hv : Byu w (Stn q g b m) iv I) (hok : Hok h (N, qb, I)) :
    Calls Tryz.prog 37 #[.pointer (some ⟨q, 0, none⟩), hag N qb iv] w (TuPost q g b m h w (N, qb, I) (a, has, img) (sealD s N qb I)) := by
  have HD := hid h0
  have HS := hid hs
  have HT := hid ht
  have HV := hid hv
  have HOk := hid hok
  have hh := hs.hh
  have hI : I.length ≤ 64 * h := hok.2.1
  have hN40 : N ≤ 1099511627776 := hok.1
  have hlt := h0.lts
  have hql := hs.lt
  have HE := hid (sealD_eq s N qb I)
  have hnp : N % 2 < 2 := Nat.mod_lt _ (by decide)
  obtain ⟨A, c, rfl, _⟩ := hv
  have K0 := hid ((Kp.refl No w).alloc (.cells #[.int .i64 (N : Int), .bool qb, .slice A I.length c] 64))
  have B0 := hid (Blk.new w 64 #[.int .i64 (N : Int), .bool qb, .slice A I.length c])
  obtain ⟨w0, hw0⟩ : ∃ w0, w.alloc (.cells #[.int .i64 (N : Int), .bool qb, .slice A I.length c] 64) = w0 := ⟨_, rfl⟩
  rw [hw0] at K0 B0
  have HF := hid (show ∀ w', Kp No w0 w' → w'.cell? ⟨w.heap.size, 0, none⟩ = some (.int .i64 (N : Int)) ∧ w'.cell? ⟨w.heap.size, 1, none⟩ = some (.bool qb) ∧ w'.cell? ⟨w.heap.size, 2, none⟩ = some (.slice A I.length c) ∧ w'.cell? ⟨q, 3, none⟩ = some (.pointer (some ⟨g, 0, none⟩)) from fun w' k => by
    obtain ⟨_, _, _, _, _, c3, _, _⟩ := ((HS.out.kp0 K0.out).kp0 k).cells
    exact ⟨(B0.out.kp0 k).cell 0, (B0.out.kp0 k).cell 1, (B0.out.kp0 k).cell 2, c3⟩)
  obtain ⟨p1, hp1⟩ : ∃ p1, wr1 s (N % 2) (hsec N qb I) = p1 := ⟨_, rfl⟩
  have HP1 := hid hp1
  rw [hp1] at HE
  obtain ⟨d0, d1, d2, d3⟩ := HF.out _ (Kp.refl No w0)
  clear h0 hs ht hok hp1
  unfold hag
  go_enter Tryz.func37, Tryz.ntmps37
  go_upto_region 1 with fail
  go_cut [5] from 7 to 16 (fun x wx => x = .int .i64 (cod p1.2) ∧ Hid (Kp (DB g b m) w0 wx ∧ Dk wx g b m p1.1))
  case first =>
    go_region_with (first
      | (go_at_call 49
         refine (hnum_any N qb (.slice A I.length c) _ (by omega)).mono ?_
         rintro e w3 ⟨rfl, k3⟩
         have KF := hid (KS.out.trans k3)
         have OF := hid (OS.out.kp0 k3)
         obtain ⟨x0, x1, x2, x3⟩ := HF.out _ KF.out
         clear k3)
      | (go_at_call 49
         refine (hnum_any N qb (.slice A I.length c) _ (by omega)).mono ?_
         rintro e w3 ⟨rfl, k3⟩
         have KN := hid (((Kp.refl No w0).drewN _).trans k3)
         obtain ⟨y0, y1, y2, y3⟩ := HF.out _ KN.out
         clear k3)
      | (go_at_call 52
         refine (sector_any (HT.out.kp0 (K0.out.trans KN.out)) (HV.out.byt.kp0 (K0.out.trans KN.out)) hN40 (by omega) HOk.out.2.2).mono ?_
         rintro e w3 ⟨u3, rfl, o3, k3⟩
         have KF := hid (KN.out.trans k3)
         have OF := hid (o3.byt (P := fun i => w.heap.size ≤ i) fun i hi => by have := (K0.out.trans KN.out).size; omega)
         obtain ⟨x0, x1, x2, x3⟩ := HF.out _ KF.out
         clear k3 o3)
      | (go_at_call 52
         refine (sector_any (HT.out.kp0 (K0.out.trans ((Kp.refl No w0).drewN _))) (HV.out.byt.kp0 (K0.out.trans ((Kp.refl No w0).drewN _))) hN40 (by omega) HOk.out.2.2).mono ?_
         rintro e w3 ⟨u3, rfl, o3, k3⟩
         have KS := hid (((Kp.refl No w0).drewN _).trans k3)
         have OS := hid (o3.byt (P := fun i => w.heap.size ≤ i) fun i hi => by have := K0.out.size; simp at hi; omega)
         obtain ⟨y0, y1, y2, y3⟩ := HF.out _ KS.out
         clear k3 o3)
      | (go_at_call 57
         refine (write_st (HD.out.kp0 (K0.out.trans KF.out)) (i := N % 2) (by omega) OF.out (by omega) (by rw [hsec_len]; omega)).mono ?_
         rintro e w5 ⟨rfl, k5, d5⟩
         rw [HP1.out] at d5 ⊢
         have F5 := hid (show Kp (DB g b m) w0 w5 ∧ Dk w5 g b m p1.1 from ⟨KF.out.all.trans k5, d5⟩)
         clear k5 d5))
    all_goals
      go_wp2_with fail
      go_meet
      exact ⟨rfl, F5⟩
  case rest =>
    obtain ⟨rfl, HW⟩ := hcut
    obtain ⟨pd, pb⟩ := p1
    simp only at HW HE ⊢
    have KW := hid (show Kp (DB g b m) w0 wc from HW.out.1)
    have DW := hid HW.out.2
    have SW := hid ((HS.out.kp0 K0.out).kpd KW.out fun _ h => h)
    have BW := hid (B0.out.kp KW.out fun e => by rcases e with e | e | e <;> omega)
    have VW := hid ((HV.out.kp0 K0.out).kp KW.out fun i hi _ e => by rcases e with e | e | e; exact hi.2.1 e; exact hi.2.2.1 e; exact hi.2.2.2 e)
    cases pb with
    | false =>
      have e1 : ((19 : Int) != 0) = true := rfl
      rw [show cod false = 19 from rfl]
      have HR := hid (show TuPost q g b m h w (N, qb, I) (a, has, img) (sealD s N qb I) (.returned (.int .i64 19)) wc by
        rw [HE.out]
        exact ⟨rfl, K0.out.all.trans (KW.out.mono fun _ _ h => .inr h), DW.out, SW.out⟩)
      clear d0 d1 d2 d3
      go_wp2
      go_ret
      exact HR.out
    | true =>
      rw [show cod true = 0 from rfl]
      obtain ⟨_, _, _, _, _, c3, _, _⟩ := SW.out.cells
      have HFl := hid (show sealD s N qb I = fls pd from HE.out)
      obtain ⟨⟨fd, fb⟩, hf⟩ : ∃ p, fls pd = p := ⟨_, rfl⟩
      have HFd := hid hf
      have e0 : ((0 : Int) != 0) = false := rfl
      clear d0 d1 d2 d3 hf
      go_upto_region 5 with (first
        | (go_at_call 58
           refine (flush_st DW.out).mono ?_
           rintro e w6 ⟨rfl, k6, d6⟩
           rw [HFd.out] at d6 ⊢
           have K6 := hid k6
           have D6 := hid d6
           have S6 := hid (SW.out.kpd k6 fun _ h => h)
           have B6 := hid (BW.out.kp k6 fun e => by rcases e with e | e | e <;> omega)
           have V6 := hid (VW.out.kp k6 fun i hi _ e => by rcases e with e | e | e; exact hi.2.1 e; exact hi.2.2.1 e; exact hi.2.2.2 e)
           clear k6 d6 c3))
      cases fb with
      | false =>
        have e1 : ((19 : Int) != 0) = true := rfl
        rw [show cod false = 19 from rfl]
        have HR := hid (show TuPost q g b m h w (N, qb, I) (a, has, img) (sealD s N qb I) (.returned (.int .i64 19)) w6 by
          rw [HFl.out, HFd.out]
          exact ⟨rfl, (K0.out.all.trans (KW.out.mono fun _ _ h => .inr h)).trans (K6.out.mono fun _ _ h => .inr h), D6.out, S6.out⟩)
        go_wp2
        go_ret
        exact HR.out
      | true =>
        rw [show cod true = 0 from rfl]
        have f0 : w6.cell? ⟨w.heap.size, 0, none⟩ = some (.int .i64 (N : Int)) := B6.out.cell 0
        have f1 : w6.cell? ⟨w.heap.size, 1, none⟩ = some (.bool qb) := B6.out.cell 1
        have f2 : w6.cell? ⟨w.heap.size, 2, none⟩ = some (.slice A I.length c) := B6.out.cell 2
        obtain ⟨iv0, hb0, _⟩ := S6.out.hd
        have c0 : w6.cell? ⟨q, 0, none⟩ = some (.int .i64 (a : Int)) := hb0.cell 0
        have c1 : w6.cell? ⟨q, 1, none⟩ = some (.bool has) := hb0.cell 1
        have c2 : w6.cell? ⟨q, 2, none⟩ = some iv0 := hb0.cell 2
        have z0 := hb0.frozen 0
        have z1 := hb0.frozen 1
        have z2 := hb0.frozen 2
        have HB0 := hid hb0
        clear hb0
        go_wp2
        have B9 := ((HB0.out.put 0 (.int .i64 (N : Int))).put 1 (.bool qb)).put 2 (.slice A I.length c)
        have L9 := (((Kp.refl (Only q) w6).setCell (p := ⟨q, 0, none⟩) (.inl rfl) (.int .i64 (N : Int))).setCell (p := ⟨q, 1, none⟩) (.inl rfl) (.bool qb)).setCell (p := ⟨q, 2, none⟩) (.inl rfl) (.slice A I.length c)
        generalize ((w6.setCell ⟨q, 0, none⟩ (.int .i64 (N : Int))).setCell ⟨q, 1, none⟩ (.bool qb)).setCell ⟨q, 2, none⟩ (.slice A I.length c) = w9 at B9 L9 ⊢
        have HR := hid (show TuPost q g b m h w (N, qb, I) (a, has, img) (sealD s N qb I) (.returned (.int .i64 0)) w9 by
          rw [HFl.out, HFd.out]
          refine ⟨rfl, ((K0.out.all.trans (KW.out.mono fun _ _ h => .inr h)).trans (K6.out.mono fun _ _ h => .inr h)).trans (L9.mono fun _ _ h => .inl h), D6.out.kp L9 (fun e => HS.out.qg (Eq.symm e)) (fun e => HS.out.qb (Eq.symm e)) fun e => HS.out.qm (Eq.symm e), ?_⟩
          exact ⟨⟨_, B9, V6.out.kp L9 fun i hi _ e => hi.1 e⟩, hN40, hI, HOk.out.2.2, hh, HS.out.qg, HS.out.qb, HS.out.qm⟩)
        clear B9 L9
        go_ret
        exact HR.out
end
end Go.Proofs.YtgfkbkonelphaaaGreatDoor

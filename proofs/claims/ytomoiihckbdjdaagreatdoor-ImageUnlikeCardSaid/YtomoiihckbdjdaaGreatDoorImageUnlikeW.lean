/-
  The walk of ImageUnlike.
-/
import Derived.Test.YtomoiihckbdjdaaGreatDoorImageBackW
import Derived.Test.YtomoiihckbdjdaaGreatDoorPSame
namespace Go.Proofs.YtomoiihckbdjdaaGreatDoor
open Go.RowKit Go.Shelf

theorem encode_form {w : World} {P : Nat → Prop} {v : Value} {gs : List GS} {ts : List TS} {x : Int} (ht : Tab w) (h : Sce w P v gs ts) (hp : ∀ g ∈ gs, I64 g.id ∧ I64 g.par) (hpt : ∀ t ∈ ts, I64 t.gr) (hco : ∀ t ∈ ts, 0 ≤ t.co ∧ t.co ≤ 18446744073709551615) (hx : encE gs ts = x) :
    Calls Tryz.prog 11 #[v] w fun e w' => ∃ u, e = .returned (.tuple #[u, .int .i64 x]) ∧ (x = 0 → Own w' w.heap.size 5 u (image (secs gs ts))) ∧ Kp No w w' := by
  by_cases h0 : x = 0
  · subst h0
    obtain ⟨h1, h2⟩ := encZ hx
    refine (encode_good ht h hp hpt hco h1 h2).mono ?_
    rintro e w' ⟨u, rfl, ho, hk⟩
    exact ⟨u, rfl, fun _ => ho, hk⟩
  · refine (encode_bad ht h hp hpt hco hx h0).mono ?_
    rintro e w' ⟨rfl, hk⟩
    exact ⟨_, rfl, fun e => absurd e h0, hk⟩
/-- What two scenes' boxes hold stays. -/
structure SYb (w4 : World) (sb tb : Nat) (w : World) : Prop where
  kp : Kp No w4 w
  s : sb < w4.heap.size
  t : tb < w4.heap.size
section
variable {w4 w w' : World} {sb tb : Nat} {a b c d : Value}
theorem SYb.kpa (h : w.cell? ⟨sb, 0, none⟩ = some a ∧ w.cell? ⟨sb, 1, none⟩ = some b ∧ w.cell? ⟨tb, 0, none⟩ = some c ∧ w.cell? ⟨tb, 1, none⟩ = some d ∧ SYb w4 sb tb w) : Kp No w4 w := h.2.2.2.2.kp
theorem SYb.step (h : w.cell? ⟨sb, 0, none⟩ = some a ∧ w.cell? ⟨sb, 1, none⟩ = some b ∧ w.cell? ⟨tb, 0, none⟩ = some c ∧ w.cell? ⟨tb, 1, none⟩ = some d ∧ SYb w4 sb tb w) (k : Kp No w w') :
    w'.cell? ⟨sb, 0, none⟩ = some a ∧ w'.cell? ⟨sb, 1, none⟩ = some b ∧ w'.cell? ⟨tb, 0, none⟩ = some c ∧ w'.cell? ⟨tb, 1, none⟩ = some d ∧ SYb w4 sb tb w' := by
  obtain ⟨h1, h2, h3, h4, h5⟩ := h
  have hs := Nat.lt_of_lt_of_le h5.s h5.kp.size
  have ht := Nat.lt_of_lt_of_le h5.t h5.kp.size
  exact ⟨(k.cell (p := ⟨sb, 0, none⟩) hs id).trans h1, (k.cell (p := ⟨sb, 1, none⟩) hs id).trans h2, (k.cell (p := ⟨tb, 0, none⟩) ht id).trans h3, (k.cell (p := ⟨tb, 1, none⟩) ht id).trans h4, h5.kp.trans k, h5.s, h5.t⟩
end
theorem same_kp {w : World} {S T : Nat → Prop} {v u : Value} {xs ys : List Int} {q : Bool} (h : Byt w S v xs) (h' : Byt w T u ys) (hq : decide (xs = ys) = q) : Calls Tryz.prog 13 #[v, u] w fun e w' => e = .returned (.bool q) ∧ Kp No w w' :=
  (same_bool h h' hq).mono fun e w' ⟨he, n, hn⟩ => ⟨he, by rw [hn]; exact (Kp.refl No w).drewN n⟩
theorem image_eq {gs gs' : List GS} {ts ts' : List TS} (h : checkS gs ts = 0) (hC : Can (secs gs ts)) (hco : ∀ t ∈ ts, 0 ≤ t.co ∧ t.co ≤ 18446744073709551615) (h' : checkS gs' ts' = 0) (hC' : Can (secs gs' ts')) (hco' : ∀ t ∈ ts', 0 ≤ t.co ∧ t.co ≤ 18446744073709551615) :
    decide (image (secs gs ts) = image (secs gs' ts')) = decide (gs = gs' ∧ ts = ts') := by
  apply decide_eq_decide.2
  constructor
  · intro e
    obtain ⟨f1, f2⟩ := check_fits h hco
    obtain ⟨g1, g2⟩ := check_fits h' hco'
    have d1 := dec_image f1 f2 hC h
    rw [e, dec_image g1 g2 hC' h'] at d1
    simp only [Prod.mk.injEq, true_and] at d1
    exact ⟨d1.1.symm, d1.2.symm⟩
  · rintro ⟨rfl, rfl⟩
    rfl
set_option maxRecDepth 100000 in
set_option maxHeartbeats 4000000 in
theorem imageUnlike_walk (w : World) {v v' : Value} {gs gs' : List GS} {ts ts' : List TS} (ht : Tab w) (h : SnI w v gs ts) (h' : SnI w v' gs' ts') :
    Calls Tryz.prog 8 #[v, v'] w fun e w' => e = .returned (.bool true) ∧ Kp No w w' := by
  obtain ⟨hS, hGI, hTI⟩ := h
  obtain ⟨vg, vt, rfl, hg, htt⟩ := id hS
  have hp : ∀ g ∈ gs, I64 g.id ∧ I64 g.par := fun g hg => ⟨(hGI g hg).id, (hGI g hg).par⟩
  have hpt : ∀ t ∈ ts, I64 t.gr := fun t ht => (hTI t ht).gr
  have hco : ∀ t ∈ ts, 0 ≤ t.co ∧ t.co ≤ 18446744073709551615 := fun t ht => by have := (hTI t ht).co; omega
  obtain ⟨hS', hGI', hTI'⟩ := h'
  obtain ⟨vg', vt', rfl, hg', htt'⟩ := id hS'
  have hp' : ∀ g ∈ gs', I64 g.id ∧ I64 g.par := fun g hg => ⟨(hGI' g hg).id, (hGI' g hg).par⟩
  have hpt' : ∀ t ∈ ts', I64 t.gr := fun t ht => (hTI' t ht).gr
  have hco' : ∀ t ∈ ts', 0 ≤ t.co ∧ t.co ≤ 18446744073709551615 := fun t ht => by have := (hTI' t ht).co; omega
  have k0 := (Kp.refl No w).alloc (.cells #[vg, vt] 25)
  have b0 := Blk.new w 25 #[vg, vt]
  have z0 := World.size_alloc w (.cells #[vg, vt] 25)
  obtain ⟨wa, hwa⟩ : ∃ wa, w.alloc (.cells #[vg, vt] 25) = wa := ⟨_, rfl⟩
  rw [hwa] at k0 b0 z0
  have k1 := (Kp.refl No wa).alloc (.cells #[vg', vt'] 25)
  have b1 := Blk.new wa 25 #[vg', vt']
  obtain ⟨w0, hw0⟩ : ∃ w0, wa.alloc (.cells #[vg', vt'] 25) = w0 := ⟨_, rfl⟩
  rw [hw0] at k1 b1
  have K0 := hid (k0.trans k1)
  have B0 := hid (b0.kp0 k1)
  have B1 := hid b1
  have HS := hid ((hS.kp0 k0).kp0 k1)
  have HS' := hid ((hS'.kp0 k0).kp0 k1)
  have HTB := hid ((ht.kp0 k0).kp0 k1)
  clear k0 b0 z0 k1 b1 ht
  obtain ⟨fb, hfb⟩ : ∃ fb, few gs ts = fb := ⟨_, rfl⟩
  obtain ⟨x, hx⟩ : ∃ x, encE gs ts = x := ⟨_, rfl⟩
  have HF := hid (fun (W : World) (k : Kp No w0 W) => few_is (HS.out.kp0 k) hfb)
  have HE := hid (fun (W : World) (k : Kp No w0 W) => encode_form (HTB.out.kp0 k) (HS.out.kp0 k) hp hpt hco hx)
  have HX := hid hx
  have HFB := hid hfb
  have HCO := hid hco
  obtain ⟨A, c, rfl, _⟩ := hg
  obtain ⟨B, d, rfl, _⟩ := htt
  obtain ⟨n, hn⟩ : ∃ n, gs.length = n := ⟨_, rfl⟩
  obtain ⟨m, hm⟩ : ∃ m, ts.length = m := ⟨_, rfl⟩
  rw [hn] at HS HF HE B0 hwa ⊢
  rw [hm] at HS HF HE B0 hwa ⊢
  have HN := hid hn
  have HM := hid hm
  clear hS hGI hTI hp hpt hco hfb hn hm hx
  obtain ⟨fb', hfb'⟩ : ∃ fb, few gs' ts' = fb := ⟨_, rfl⟩
  obtain ⟨x', hx'⟩ : ∃ x, encE gs' ts' = x := ⟨_, rfl⟩
  have HF' := hid (fun (W : World) (k : Kp No w0 W) => few_is (HS'.out.kp0 k) hfb')
  have HE' := hid (fun (W : World) (k : Kp No w0 W) => encode_form (HTB.out.kp0 k) (HS'.out.kp0 k) hp' hpt' hco' hx')
  have HX' := hid hx'
  have HFB' := hid hfb'
  have HCO' := hid hco'
  obtain ⟨A', c', rfl, _⟩ := hg'
  obtain ⟨B', d', rfl, _⟩ := htt'
  obtain ⟨n', hn'⟩ : ∃ n, gs'.length = n := ⟨_, rfl⟩
  obtain ⟨m', hm'⟩ : ∃ m, ts'.length = m := ⟨_, rfl⟩
  rw [hn'] at HS' HF' HE' B1 hw0 ⊢
  rw [hm'] at HS' HF' HE' B1 hw0 ⊢
  have HN' := hid hn'
  have HM' := hid hm'
  clear hS' hGI' hTI' hp' hpt' hco' hfb' hn' hm' hx'
  have c00 := B0.out.cell 0
  have c01 := B0.out.cell 1
  have c10 := B1.out.cell 0
  have c11 := B1.out.cell 1
  simp only [List.getElem?_toArray, List.getElem?_cons_zero, List.getElem?_cons_succ] at c00 c01 c10 c11
  by_cases hgood : fb = true ∧ fb' = true ∧ x = 0 ∧ x' = 0
  · obtain ⟨rfl, rfl, rfl, rfl⟩ := hgood
    obtain ⟨e1, e2⟩ := encZ HX.out
    obtain ⟨e3, e4⟩ := encZ HX'.out
    have HEQ := hid (image_eq e1 e2 HCO.out e3 e4 HCO'.out)
    obtain ⟨q, hq⟩ : ∃ q, decide (gs = gs' ∧ ts = ts') = q := ⟨_, rfl⟩
    have HQ := hid hq
    rw [hq] at HEQ
    have hqq : (q == q) = true := by simp
    clear e1 e2 e3 e4 hq
    go_enter Tryz.func8, Tryz.ntmps8
    go_upto_region 1 with fail
    clear hw0 hwa
    go_upto_region 8 with (first
        | (go_at_call 9
           with_reducible refine (iawake_any HTB.out).mono ?_
           rintro e w1 ⟨rfl, k1⟩
           have K1 := hid k1
           have b1 := B0.out.kp0 K1.out
           have a1 := B1.out.kp0 K1.out
           have s10 := b1.cell 0
           have s11 := b1.cell 1
           have t10 := a1.cell 0
           have t11 := a1.cell 1
           simp only [List.getElem?_toArray, List.getElem?_cons_zero, List.getElem?_cons_succ] at s10 s11 t10 t11
           clear a1 b1
           clear k1)
        | (go_at_call 10
           with_reducible refine (HF.out _ K1.out).mono ?_
           rintro e w2 ⟨rfl, k2⟩
           have K2 := hid (K1.out.trans k2)
           have b2 := B0.out.kp0 K2.out
           have a2 := B1.out.kp0 K2.out
           have s20 := b2.cell 0
           have s21 := b2.cell 1
           have t20 := a2.cell 0
           have t21 := a2.cell 1
           simp only [List.getElem?_toArray, List.getElem?_cons_zero, List.getElem?_cons_succ] at s20 s21 t20 t21
           clear a2 b2
           clear k2)
        | (go_at_call 10
           with_reducible refine (HF'.out _ K2.out).mono ?_
           rintro e w3 ⟨rfl, k3⟩
           have K3 := hid (K2.out.trans k3)
           have b3 := B0.out.kp0 K3.out
           have a3 := B1.out.kp0 K3.out
           have s30 := b3.cell 0
           have s31 := b3.cell 1
           have t30 := a3.cell 0
           have t31 := a3.cell 1
           simp only [List.getElem?_toArray, List.getElem?_cons_zero, List.getElem?_cons_succ] at s30 s31 t30 t31
           clear a3 b3
           clear k3)
        | (go_at_call 11
           with_reducible refine (HE.out _ K3.out).mono ?_
           rintro e w4 ⟨u4, rfl, o4, k4⟩
           have K4 := hid (K3.out.trans k4)
           have O4 := hid o4
           have b4 := B0.out.kp0 K4.out
           have a4 := B1.out.kp0 K4.out
           have s40 := b4.cell 0
           have s41 := b4.cell 1
           have t40 := a4.cell 0
           have t41 := a4.cell 1
           simp only [List.getElem?_toArray, List.getElem?_cons_zero, List.getElem?_cons_succ] at s40 s41 t40 t41
           clear a4 b4
           clear k4 o4)
        | (go_at_call 11
           with_reducible refine (HE'.out _ K4.out).mono ?_
           rintro e w5 ⟨u5, rfl, o5, k5⟩
           have K5 := hid (K4.out.trans k5)
           have K45 := hid k5
           have O5 := hid o5
           have b5 := B0.out.kp0 K5.out
           have a5 := B1.out.kp0 K5.out
           have s50 := b5.cell 0
           have s51 := b5.cell 1
           have t50 := a5.cell 0
           have t51 := a5.cell 1
           simp only [List.getElem?_toArray, List.getElem?_cons_zero, List.getElem?_cons_succ] at s50 s51 t50 t51
           clear a5 b5
           clear k5 o5))
    have O44 := hid ((O4.out trivial).kp K45.out fun _ _ h => h)
    have BY4 := hid (O44.out.byt (P := Anyb) fun _ _ => trivial)
    have BY5 := hid ((O5.out trivial).byt (P := Anyb) fun _ _ => trivial)
    have SZ := hid (show w5.drew.cell? ⟨w.heap.size, 0, none⟩ = some (.slice A n c) ∧ w5.drew.cell? ⟨w.heap.size, 1, none⟩ = some (.slice B m d) ∧ w5.drew.cell? ⟨wa.heap.size, 0, none⟩ = some (.slice A' n' c') ∧ w5.drew.cell? ⟨wa.heap.size, 1, none⟩ = some (.slice B' m' d') ∧ SYb w5 w.heap.size wa.heap.size w5.drew from
      ⟨s50, s51, t50, t51, (Kp.refl _ _).drew, (B0.out.kp0 K5.out).lt, (B1.out.kp0 K5.out).lt⟩)
    go_region_held3 (fun w' => w'.cell? ⟨w.heap.size, 0, none⟩ = some (.slice A n c) ∧ w'.cell? ⟨w.heap.size, 1, none⟩ = some (.slice B m d) ∧ w'.cell? ⟨wa.heap.size, 0, none⟩ = some (.slice A' n' c') ∧ w'.cell? ⟨wa.heap.size, 1, none⟩ = some (.slice B' m' d') ∧ SYb w5 w.heap.size wa.heap.size w')
      (first | exact SZ.out | exact SYb.step (by assumption) (by assumption) | assumption)
      (first
        | (go_at_call 13
           with_reducible refine (same_kp (BY4.out.kp (SYb.kpa (by assumption)) fun _ _ h => h) (BY5.out.kp (SYb.kpa (by assumption)) fun _ _ h => h) HEQ.out).mono ?_
           rintro e w6 ⟨rfl, k6⟩)
        | (go_at_call 17
           with_reducible refine (same_is (HS.out.kp0 (K5.out.trans (SYb.kpa (by assumption)))) (HS'.out.kp0 (K5.out.trans (SYb.kpa (by assumption)))) HQ.out).mono ?_
           rintro e w7 ⟨rfl, k7⟩))
    go_wp2_with fail
    go_ret
    exact ⟨rfl, K0.out.trans (K5.out.trans (SYb.kpa (by assumption)))⟩
  · have hwhy : fb = false ∨ (fb = true ∧ fb' = false) ∨ (fb = true ∧ fb' = true ∧ (x != 0) = true) ∨ (fb = true ∧ fb' = true ∧ x = 0 ∧ (x' != 0) = true) := by
      cases fb
      · exact .inl rfl
      · cases fb'
        · exact .inr (.inl ⟨rfl, rfl⟩)
        · by_cases hx : x = 0
          · exact .inr (.inr (.inr ⟨rfl, rfl, hx, by rw [bne_iff_ne]; exact fun e => hgood ⟨rfl, rfl, hx, e⟩⟩))
          · exact .inr (.inr (.inl ⟨rfl, rfl, by rw [bne_iff_ne]; exact hx⟩))
    clear hgood
    rcases hwhy with rfl | ⟨rfl, rfl⟩ | ⟨rfl, rfl, hx⟩ | ⟨rfl, rfl, rfl, hx⟩
    all_goals (
      go_enter Tryz.func8, Tryz.ntmps8
      go_upto_region 1 with fail
      clear hw0 hwa
      go_wp2_with (first
        | (go_at_call 9
           with_reducible refine (iawake_any HTB.out).mono ?_
           rintro e w1 ⟨rfl, k1⟩
           have K1 := hid k1
           have b1 := B0.out.kp0 K1.out
           have a1 := B1.out.kp0 K1.out
           have s10 := b1.cell 0
           have s11 := b1.cell 1
           have t10 := a1.cell 0
           have t11 := a1.cell 1
           simp only [List.getElem?_toArray, List.getElem?_cons_zero, List.getElem?_cons_succ] at s10 s11 t10 t11
           clear a1 b1
           clear k1)
        | (go_at_call 10
           with_reducible refine (HF.out _ K1.out).mono ?_
           rintro e w2 ⟨rfl, k2⟩
           have K2 := hid (K1.out.trans k2)
           have b2 := B0.out.kp0 K2.out
           have a2 := B1.out.kp0 K2.out
           have s20 := b2.cell 0
           have s21 := b2.cell 1
           have t20 := a2.cell 0
           have t21 := a2.cell 1
           simp only [List.getElem?_toArray, List.getElem?_cons_zero, List.getElem?_cons_succ] at s20 s21 t20 t21
           clear a2 b2
           clear k2)
        | (go_at_call 10
           with_reducible refine (HF'.out _ K2.out).mono ?_
           rintro e w3 ⟨rfl, k3⟩
           have K3 := hid (K2.out.trans k3)
           have b3 := B0.out.kp0 K3.out
           have a3 := B1.out.kp0 K3.out
           have s30 := b3.cell 0
           have s31 := b3.cell 1
           have t30 := a3.cell 0
           have t31 := a3.cell 1
           simp only [List.getElem?_toArray, List.getElem?_cons_zero, List.getElem?_cons_succ] at s30 s31 t30 t31
           clear a3 b3
           clear k3)
        | (go_at_call 11
           with_reducible refine (HE.out _ K3.out).mono ?_
           rintro e w4 ⟨u4, rfl, o4, k4⟩
           have K4 := hid (K3.out.trans k4)
           have O4 := hid o4
           have b4 := B0.out.kp0 K4.out
           have a4 := B1.out.kp0 K4.out
           have s40 := b4.cell 0
           have s41 := b4.cell 1
           have t40 := a4.cell 0
           have t41 := a4.cell 1
           simp only [List.getElem?_toArray, List.getElem?_cons_zero, List.getElem?_cons_succ] at s40 s41 t40 t41
           clear a4 b4
           clear k4 o4)
        | (go_at_call 11
           with_reducible refine (HE'.out _ K4.out).mono ?_
           rintro e w5 ⟨u5, rfl, o5, k5⟩
           have K5 := hid (K4.out.trans k5)
           have K45 := hid k5
           have O5 := hid o5
           have b5 := B0.out.kp0 K5.out
           have a5 := B1.out.kp0 K5.out
           have s50 := b5.cell 0
           have s51 := b5.cell 1
           have t50 := a5.cell 0
           have t51 := a5.cell 1
           simp only [List.getElem?_toArray, List.getElem?_cons_zero, List.getElem?_cons_succ] at s50 s51 t50 t51
           clear a5 b5
           clear k5 o5))
      go_ret
      exact ⟨rfl, K0.out.trans K5.out⟩)
end Go.Proofs.YtomoiihckbdjdaaGreatDoor

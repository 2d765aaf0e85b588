/-
  The walk of ImageAgain.
-/
import Derived.Test.YtomoiihckbdjdaaGreatDoorImageBackW
import Derived.Test.YtomoiihckbdjdaaGreatDoorPSame
namespace Go.Proofs.YtomoiihckbdjdaaGreatDoor
open Go.RowKit Go.Shelf

theorem ofSecs_bd {l : List Sn} {x : Int} {gs : List GS} {ts : List TS} (h : ofSecs l = (x, gs, ts)) (hb : ∀ s ∈ l, Bs s.body) : (∀ g ∈ gs, GR g) ∧ (∀ t ∈ ts, 0 ≤ t.gr ∧ t.gr < 16777216) := by
  have no : x = x ∧ gs = [] ∧ ts = [] → (∀ g ∈ gs, GR g) ∧ (∀ t ∈ ts, 0 ≤ t.gr ∧ t.gr < 16777216) := by
    rintro ⟨_, rfl, rfl⟩
    exact ⟨fun g hg => (by cases hg), fun t ht => (by cases ht)⟩
  by_cases hk : l.map Sn.kind = [1, 2, 3, 4]
  · obtain ⟨a, b, c, d, rfl⟩ : ∃ a b c d, l = [⟨1, a⟩, ⟨2, b⟩, ⟨3, c⟩, ⟨4, d⟩] := by
      have hl := congrArg List.length hk
      rcases l with _ | ⟨⟨k1, a⟩, _ | ⟨⟨k2, b⟩, _ | ⟨⟨k3, c⟩, _ | ⟨⟨k4, d⟩, _ | ⟨s5, l⟩⟩⟩⟩⟩ <;> simp at hl
      simp only [List.map_cons, List.map_nil, List.cons.injEq, and_true] at hk
      obtain ⟨rfl, rfl, rfl, rfl⟩ := hk
      exact ⟨a, b, c, d, rfl⟩
    obtain ⟨r, p, hpd⟩ : ∃ r p, parseD a b c d = (r, p) := ⟨_, _, rfl⟩
    obtain ⟨gp, tp⟩ := p
    rw [ofSecs_four a b c d hpd] at h
    obtain ⟨h1, h2, _⟩ := parseD_bd hpd (hb ⟨1, a⟩ (by simp)) (hb ⟨2, b⟩ (by simp)) (hb ⟨3, c⟩ (by simp))
    by_cases hr : r = false
    · rw [if_pos hr] at h
      simp only [Prod.mk.injEq] at h
      exact no ⟨rfl, h.2.1.symm, h.2.2.symm⟩
    · rw [if_neg hr] at h
      by_cases hc : checkS gp tp = 0
      · rw [if_pos hc] at h
        simp only [Prod.mk.injEq] at h
        obtain ⟨_, rfl, rfl⟩ := h
        exact ⟨h1, h2⟩
      · rw [if_neg hc] at h
        simp only [Prod.mk.injEq] at h
        exact no ⟨rfl, h.2.1.symm, h.2.2.symm⟩
  · rw [ofSecs_kinds hk] at h
    simp only [Prod.mk.injEq] at h
    exact no ⟨rfl, h.2.1.symm, h.2.2.symm⟩
/-- The numbers of what is decoded are ints, and its sets are sets. -/
theorem tsOf_co : ∀ (n : Nat) {a b : List Int} {ts : List TS}, tsOf n a b = some ts → Bs b → ∀ t ∈ ts, 0 ≤ t.co ∧ t.co ≤ 18446744073709551615
  | 0, _, _, ts, h, _, t, ht => by
    cases h
    cases ht
  | n + 1, a, b, ts, h, hb, t, ht => by
    unfold tsOf at h
    by_cases hw : aw a ≤ 1
    · rw [if_pos hw, Option.map_eq_some_iff] at h
      obtain ⟨l, hl, rfl⟩ := h
      rcases List.mem_cons.1 ht with rfl | ht
      · have := num_lt hb 8 (by decide)
        rw [pw8] at this
        show 0 ≤ num (b.take 8) ∧ num (b.take 8) ≤ 18446744073709551615
        omega
      · exact tsOf_co n hl (hb.drop 8) t ht
    · rw [if_neg hw] at h
      cases h
theorem dec_fits {xs : List Int} {gs : List GS} {ts : List TS} (hb : Bs xs) (h : dec xs = (0, gs, ts)) : (∀ g ∈ gs, I64 g.id ∧ I64 g.par) ∧ (∀ t ∈ ts, I64 t.gr) ∧ ∀ t ∈ ts, 0 ≤ t.co ∧ t.co ≤ 18446744073709551615 := by
  unfold dec at h
  by_cases h0 : (unp xs).1 = 0
  · rw [if_pos h0] at h
    have hu : unp xs = (0, (unp xs).2) := by rw [← h0]
    obtain ⟨hC, hi⟩ := unp_zero hb hu
    have hbs : ∀ s ∈ (unp xs).2, Bs s.body := fun s hs x hx => hb x (by
      rw [← hi]
      exact List.mem_append_right _ (List.mem_flatMap.2 ⟨s, hs, hx⟩))
    obtain ⟨h1, h2⟩ := ofSecs_bd h hbs
    obtain ⟨hz, a, b, c, d, hl, hp⟩ := ofSecs_zero h
    rw [hl] at hbs
    refine ⟨fun g hg => ?_, fun t ht => ?_, ?_⟩
    · have := (h1 g hg).id
      have := (h1 g hg).par
      unfold I64
      omega
    · have := h2 t ht
      unfold I64
      omega
    · unfold parse at hp
      by_cases hq : pairB a.length 9 b.length 12 = true ∧ pairB c.length 27 d.length 8 = true
      · rw [if_pos hq, Option.map_eq_some_iff] at hp
        obtain ⟨l, hl2, e⟩ := hp
        obtain ⟨_, rfl⟩ := Prod.mk.inj e
        exact tsOf_co _ hl2 (hbs ⟨4, d⟩ (by simp))
      · rw [if_neg hq] at hp
        cases hp
  · rw [if_neg h0] at h
    exact absurd (Prod.mk.inj h).1 h0
set_option maxRecDepth 100000 in
set_option maxHeartbeats 4000000 in
theorem imageAgain_walk (w : World) (v : Value) {xs : List Int} (ht : Tab w) (hv : Byt w Anyb v xs) :
    Calls Tryz.prog 6 #[v] w fun e w' => e = .returned (.bool true) ∧ Kp No w w' := by
  have HTB := hid ht
  have HB := hid hv
  have HBS := hid (show Bs xs from hv.bytes)
  obtain ⟨n, hn⟩ : ∃ n, xs.length = n := ⟨_, rfl⟩
  have HN := hid hn
  obtain ⟨A, c, rfl, hrest⟩ := hv
  rw [hn] at HB ⊢
  clear ht hrest hn
  by_cases h1000 : 1000 < n
  · have g1 : (1000 : Int) < (n : Int) := by omega
    go_enter Tryz.func6, Tryz.ntmps6
    go_wp2_with (first
      | (go_at_call 9
         with_reducible refine (iawake_any HTB.out).mono ?_
         rintro e w1 ⟨rfl, k1⟩
         have K1 := hid k1
         clear k1))
    go_ret
    exact ⟨rfl, K1.out⟩
  · have g1 : ¬ (1000 : Int) < (n : Int) := by omega
    have HL := hid (show xs.length ≤ 1000 by rw [HN.out]; omega)
    obtain ⟨x, p, hx⟩ : ∃ x p, dec xs = (x, p) := ⟨_, _, rfl⟩
    obtain ⟨gs, ts⟩ := p
    have HX := hid hx
    obtain ⟨lg, hlg⟩ : ∃ l, gs.length = l := ⟨_, rfl⟩
    obtain ⟨lt, hlt⟩ : ∃ l, ts.length = l := ⟨_, rfl⟩
    have HLG := hid hlg
    have HLT := hid hlt
    clear h1000 hx hlg hlt
    by_cases hx0 : x = 0
    · subst hx0
      obtain ⟨e1, e2, e3⟩ := dec_back HBS.out HX.out
      obtain ⟨f1, f2, f3⟩ := dec_fits HBS.out HX.out
      have HC0 := hid e1
      have HCan := hid e2
      have HIM := hid e3
      have F1 := hid f1
      have F2 := hid f2
      have F3 := hid f3
      have HSL := hid (show n = 41 + 21 * lg + 35 * lt by rw [← HN.out, ← e3, secs_image_len, HLG.out, HLT.out])
      have hcl := check_len e1
      rw [HLG.out, HLT.out] at hcl
      have HCL := hid hcl
      have g2 : (41 + (lg : Int) * 21 + (lt : Int) * 35 == (n : Int)) = true := by rw [beq_iff_eq]; have := HSL.out; omega
      clear e1 e2 e3 f1 f2 f3 hcl
      go_enter Tryz.func6, Tryz.ntmps6
      go_wp2_with (first
        | (go_at_call 9
           with_reducible refine (iawake_any HTB.out).mono ?_
           rintro e w1 ⟨rfl, k1⟩
           have K1 := hid k1
           clear k1)
        | (go_at_call 15
           with_reducible refine (decode_any (HTB.out.kp0 K1.out) (HB.out.kp K1.out fun _ _ h => h) (by have := HL.out; omega) HX.out).mono ?_
           rintro e w4 ⟨ug, ut, rfl, og, ot, k4⟩
           obtain ⟨Ag, cg, rfl⟩ := og.formN HLG.out
           obtain ⟨At, ct, rfl⟩ := ot.formN HLT.out
           have k45 := (Kp.refl No w4).alloc (.cells #[.slice Ag lg cg, .slice At lt ct] 25)
           have B5 := hid (Blk.new w4 25 #[.slice Ag lg cg, .slice At lt ct])
           have K5 := hid (K1.out.trans (k4.trans k45))
           have S5 := hid (Own.sce (og.kp0 k45) (ot.kp0 k45))
           clear k4 k45 og ot)
        | (go_at_call 11
           with_reducible refine (encode_good (HTB.out.kp0 K5.out) S5.out F1.out F2.out F3.out HC0.out HCan.out).mono ?_
           rintro e w6 ⟨u6, rfl, o6, k6⟩
           have O6 := hid (o6.byt (P := Anyb) fun _ _ => trivial)
           have K56 := hid k6
           have K6 := hid (K5.out.trans k6)
           have b6 := B5.out.kp0 k6
           have s60 := b6.cell 0
           have s61 := b6.cell 1
           simp only [List.getElem?_toArray, List.getElem?_cons_zero, List.getElem?_cons_succ] at s60 s61
           clear k6 o6 b6)
        | (go_at_call 13
           with_reducible refine (same_bool (q := true) O6.out (HB.out.kp K6.out fun _ _ h => h) (decide_eq_true HIM.out)).mono ?_
           rintro e w7 ⟨rfl, n7, rfl⟩
           have K7 := hid (K6.out.drewN n7)
           have K57 := hid (K56.out.drewN n7)
           have b7 := B5.out.kp0 K57.out
           have s70 := b7.cell 0
           have s71 := b7.cell 1
           simp only [List.getElem?_toArray, List.getElem?_cons_zero, List.getElem?_cons_succ] at s70 s71
           clear b7)
        | (go_at_call 19
           with_reducible refine (zcheck_is (S5.out.kp0 K57.out) F1.out F2.out HC0.out).mono ?_
           rintro e w8 ⟨rfl, k8⟩
           have K8 := hid (K7.out.trans k8)
           have K58 := hid (K57.out.trans k8)
           have b8 := B5.out.kp0 K58.out
           have s80 := b8.cell 0
           have s81 := b8.cell 1
           simp only [List.getElem?_toArray, List.getElem?_cons_zero, List.getElem?_cons_succ] at s80 s81
           clear k8 b8)
        | (go_at_call 14
           with_reducible refine (size_any (S5.out.kp0 K58.out) (by rw [HLG.out]; exact HCL.out.1) (by rw [HLT.out]; exact HCL.out.2)).mono ?_
           rintro e w9 ⟨rfl, k9⟩
           rw [HLG.out, HLT.out]
           have K9 := hid (K8.out.trans k9)
           clear k9))
      go_ret
      exact ⟨rfl, K9.out⟩
    · have hne : (x != 0) = true := by rw [bne_iff_ne]; exact hx0
      have he := dec_err (xs := xs) (by rw [HX.out]; exact hx0)
      rw [HX.out] at he
      obtain ⟨rfl, rfl⟩ := Prod.mk.inj he
      obtain rfl : lg = 0 := HLG.out.symm
      obtain rfl : lt = 0 := HLT.out.symm
      clear he hx0
      go_enter Tryz.func6, Tryz.ntmps6
      go_wp2_with (first
        | (go_at_call 9
           with_reducible refine (iawake_any HTB.out).mono ?_
           rintro e w1 ⟨rfl, k1⟩
           have K1 := hid k1
           clear k1)
        | (go_at_call 15
           with_reducible refine (decode_any (HTB.out.kp0 K1.out) (HB.out.kp K1.out fun _ _ h => h) (by have := HL.out; omega) HX.out).mono ?_
           rintro e w4 ⟨ug, ut, rfl, og, ot, k4⟩
           obtain ⟨Ag, cg, rfl⟩ := og.formN HLG.out
           obtain ⟨At, ct, rfl⟩ := ot.formN HLT.out
           have K5 := hid ((K1.out.trans k4).alloc (.cells #[.slice Ag 0 cg, .slice At 0 ct] 25))
           clear k4 og ot))
      go_ret
      exact ⟨rfl, K5.out⟩
end Go.Proofs.YtomoiihckbdjdaaGreatDoor

/-
  The walk of SlotsFalls.
-/
import Derived.Test.YteficflfmbecbaaDoorSlFa
namespace Go.Proofs.YteficflfmbecbaaDoor
open Go.RowKit

theorem isThat_eq {r : Nat × Bool × List Int} {x : Int} (h : x = (r.1 : Int)) : isThat r x r.2.1 r.2.2 = true := by rw [h]; exact isThat_self r
theorem no_kp {w w' : World} (k : Kp (fun i => (Value.slice none 0 0).ownBlock = some i) w w') : Kp No w w' := k.mono fun i _ h => by cases h
/-- How the rows read, while the disk alone changes. -/
theorem FI.ro {w0 w : World} {q g b m k : Nat} {v9 v10 v11 : Value} {s : Ds} {r : Nat × Bool × List Int} {r' : Bool × List Int} {hs : List (Nat × Bool × List Int)} {us : List Value} (f : FI w0 q g b m k v9 v10 v11 s r r' hs us w) {N : Nat} (hN : N = r.1 + 1) :
    ∃ p9 c9 p10 c10 p11 c11, v9 = .slice (some ⟨p9, 0, none⟩) N c9 ∧ v10 = .slice (some ⟨p10, 0, none⟩) N c10 ∧ v11 = .slice (some ⟨p11, 0, none⟩) N c11 ∧ ∀ w', Kp (Only b) w w' → ∀ j, j < N →
      w'.cell? ⟨p9, j, none⟩ = some (.int .i64 ((hs.getD j h0).1 : Int)) ∧ w'.cell? ⟨p10, j, none⟩ = some (.bool (hs.getD j h0).2.1) ∧
      ∃ A c, w'.cell? ⟨p11, j, none⟩ = some (.slice A (hs.getD j h0).2.2.length c) ∧ Byu w' Anyb (.slice A (hs.getD j h0).2.2.length c) (hs.getD j h0).2.2 := by
  have hl : hs.length = N := by rw [hN]; exact f.hi.len
  have hu : us.length = N := by rw [f.ul]; exact hl
  have hN0 : 0 < N := by omega
  obtain ⟨p9, c9, rfl, _, _⟩ := f.ra.spot (n := N) (by rw [List.length_map]; exact hl) hN0
  obtain ⟨p10, c10, rfl, _, _⟩ := f.rb.spot (n := N) (by rw [List.length_map]; exact hl) hN0
  obtain ⟨p11, c11, rfl, _, _⟩ := f.rc.spot (n := N) hu hN0
  refine ⟨p9, c9, p10, c10, p11, c11, rfl, rfl, rfl, fun w' kk j hj => ?_⟩
  have hn : ∀ e : TypeId, e ≠ 59 → e ≠ 65 → e ≠ 72 → ∀ i, Te w e i → w0.heap.size ≤ i → ¬ Only b i := fun e h1 h2 h3 i ht _ hi => by
    rcases f.wd.sbT (.inr (.inr (.inl hi))) ht with e' | e' | e'
    · exact h1 e'
    · exact h2 e'
    · exact h3 e'
  obtain ⟨_, _, e9, _, h9⟩ := (f.ra.kp kk (hn _ (by decide) (by decide) (by decide))).spot (n := N) (by rw [List.length_map]; exact hl) hN0
  obtain ⟨_, _, e10, _, h10⟩ := (f.rb.kp kk (hn _ (by decide) (by decide) (by decide))).spot (n := N) (by rw [List.length_map]; exact hl) hN0
  obtain ⟨_, _, e11, _, h11⟩ := (f.rc.kp kk (hn _ (by decide) (by decide) (by decide))).spot (n := N) hu hN0
  cases e9
  cases e10
  cases e11
  have hb := f.wd.byu (f.by' j (by omega)) (kk.mono fun i _ e => (.inr (.inr (.inl e))))
  have hx := h11 j hj
  obtain ⟨A, c, he, hr⟩ := hb
  rw [he] at hx
  refine ⟨?_, ?_, A, c, hx, A, c, rfl, hr⟩
  · rw [h9 j hj]
    simp [List.getD, show j < hs.length by omega]
  · rw [h10 j hj]
    simp [List.getD, show j < hs.length by omega]
set_option maxHeartbeats 8000000 in
set_option maxRecDepth 100000 in
theorem slotsFalls_walk (w : World) (v : Value) (wh bi : Int) (ht : Tab w) {os : List Dop} (ho : Ops w Anyb v os) (hwh : 0 ≤ wh ∧ wh ≤ 65535) (hbi : 0 ≤ bi ∧ bi ≤ 65535) :
    Calls Tryd.prog 5 #[v, .int .u16 wh, .int .u16 bi] w fun e w' => e = .returned (.bool true) ∧ Kp No w w' := by
  have HT := hid ht
  have HO := hid ho.below
  obtain ⟨V, vc, rfl, hvc, hvm, _⟩ := ho.rw
  unfold maxLen at hvm
  obtain ⟨n, hn⟩ : ∃ n, os.length = n := ⟨_, rfl⟩
  have HN := hid hn
  rw [hn] at hvc HO ⊢
  obtain ⟨wi, rfl⟩ : ∃ i : Nat, wh = (i : Int) := ⟨wh.toNat, by omega⟩
  obtain ⟨bn, rfl⟩ : ∃ i : Nat, bi = (i : Int) := ⟨bi.toNat, by omega⟩
  clear ht ho hn
  go_enter Tryd.func5, Tryd.ntmps5
  go_upto_region 3 with (first
    | (go_at_call 8
       refine (awake_any w HT.out).mono ?_
       rintro e w1 ⟨rfl, k1⟩
       have K1 := hid k1
       have HO1 := hid (HO.out.kp k1 fun _ _ h => h)
       clear k1)
    | (go_at_call 9
       refine (few_any HO1.out).mono ?_
       rintro e w2 ⟨q0, rfl, rfl, hq0⟩
       have HQ0 := hid hq0
       clear hq0))
  cases q0 with
  | false =>
    go_wp2
    go_ret
    exact ⟨rfl, K1.out⟩
  | true =>
  have hn20 : n ≤ 20 := by have := (HQ0.out rfl).1; rw [HN.out] at this; exact this
  have HF := hid (show ∀ k, k < n → (os.getD k dop0).bl.length ≤ 400 from fun k hk => by
    have : k < os.length := by rw [HN.out]; exact hk
    rw [show os.getD k dop0 = os[k] by simp [List.getD, this]]
    exact ((HQ0.out rfl).2 _ (List.getElem_mem this)).1)
  go_wp2_with (first
    | (go_at_call 19
       refine (newd_any 40 _).mono ?_
       rintro e w3 ⟨g, b, m, rfl, D3, k3, hg, hb, hm⟩
       have HD3 := hid (show Dk w3 g b m (dsN 40) from D3)
       have K3 := hid (K1.out.trans k3)
       have hlo : w.heap.size ≤ g ∧ w.heap.size ≤ b ∧ w.heap.size ≤ m := by have := K1.out.size; omega
       clear D3 k3 hg hb hm)
    | (go_at_call 18
       refine (open_is HD3.out (HT.out.kp0 K3.out) rfl (by simp [dsN])).mono ?_
       rintro e w4 ⟨q, rfl, hq4, s4, k4⟩
       have W4 := hid (wd_new (n := 40) (HD3.out.kp0 k4) (by simpa [dsN] using s4) (by omega) (by omega))
       have K4 := hid (K3.out.trans k4)
       have hlq : w.heap.size ≤ q := by have := K3.out.size; omega
       clear s4 k4 hq4)
    | (at_builtin
       refine wp_row1 usI rfl (.tmp 45) (.tmp 46) rfl (base := w.heap.size) (vs := []) (y := .int .i64 0) (by exact Rv.nil _ _ _) rfl (by exact (Blk.new w4 3 #[.int .i64 0]).cell 0) rfl (by simp) (by simp [maxLen]) (by exact (K4.out.alloc _).size) ?_
       intro v9 w5 o5 k5
       have K5 := hid ((K4.out.alloc (.cells #[.int .i64 0] 3)).trans (no_kp k5))
       have W5 := hid (W4.out.kp0 (((Kp.refl No w4).alloc (.cells #[.int .i64 0] 3)).trans (no_kp k5)))
       have R5 := hid o5
       clear o5 k5)
    | (at_builtin
       refine wp_row1 usZ rfl (.tmp 48) (.tmp 49) rfl (base := w.heap.size) (vs := []) (y := .bool false) (by exact Rv.nil _ _ _) rfl (by exact (Blk.new w5 4 #[.bool false]).cell 0) rfl (by simp) (by simp [maxLen]) (by exact (K5.out.alloc _).size) ?_
       intro v10 w6 o6 k6
       have K6 := hid ((K5.out.alloc (.cells #[.bool false] 4)).trans (no_kp k6))
       have L6 := hid (((Kp.refl No w5).alloc (.cells #[.bool false] 4)).trans (no_kp k6))
       have R6 := hid o6
       clear o6 k6)
    | (at_builtin
       refine wp_row1 usB rfl (.tmp 51) (.tmp 52) rfl (base := w.heap.size) (vs := []) (y := .slice none 0 0) (by exact Rv.nil _ _ _) rfl (by exact (Blk.new w6 23 #[.slice none 0 0]).cell 0) rfl (by simp) (by simp [maxLen]) (by exact (K6.out.alloc _).size) ?_
       intro v11 w7 o7 k7
       have L7 := hid (((Kp.refl No w6).alloc (.cells #[.slice none 0 0] 23)).trans (no_kp k7))
       have K7 := hid (K6.out.trans L7.out)
       have F7 := hid (show FI w q g b m 0 v9 v10 v11 (dsN 40) h0 (false, []) [h0] [.slice none 0 0] w7 from
         ⟨(W5.out.kp0 L6.out).kp0 L7.out, Nat.le_refl _, ⟨rfl, rfl, fun h => absurd h (by decide)⟩, rfl, (R5.out.kp0 L6.out).kp0 L7.out, R6.out.kp0 L7.out, o7, fun j hj => by
           have : j = 0 := by simpa using hj
           subst this
           exact Byu.nil _ _⟩)
       clear o7 k7))
  go_loopw [9, 10, 11, 15] (fun v9 v10 v11 i wr => ∃ k : Nat, k ≤ n ∧ i = .int .i64 (k : Int) ∧ Hid (∃ s r r' hs us, FI w q g b m k v9 v10 v11 s r r' hs us wr) ∧ Hid (Kp No w wr)) (fun _ _ _ i _ => n - (intOf i).toNat)
  case atStart => exact ⟨0, Nat.zero_le _, rfl, hid ⟨_, _, _, _, _, F7.out⟩, K7⟩
  case round =>
    obtain ⟨k, hk, rfl, HFI, KP⟩ := hrel
    clear W4 W5 R5 R6 L6 L7 F7 K4 K5 K6 K7 HD3 K3
    obtain ⟨s, ⟨ra, rh, ri⟩, r', hs, us, hF⟩ := HFI.out
    have FF := hid hF
    have hrk : ra ≤ k := hF.le
    have hhl := hF.hi.len
    simp only at hhl
    have hul := hF.ul
    clear hF HFI
    by_cases hkn : k < n
    · have HOw := HO.out.kp KP.out fun _ _ h => h
      obtain ⟨b0, o0, rfl, ok, hcell⟩ := HOw.at' (k := k) (by rw [HN.out]; exact hkn)
      have hb4 := HF.out k hkn
      have hc0 := fun (w' : World) (kk : Kp No w w') => (HO.out.kp kk fun _ _ h => h).cell03 (k := k) (by rw [HN.out]; exact hkn)
      generalize os.getD k dop0 = x at ok hcell hb4 hc0
      have c0 := hcell 0 (by omega)
      have c3 := hcell 3 (by omega)
      simp only [dc, Nat.add_zero] at c0 c3
      obtain ⟨xd, xi, xn, xb, xbl, xk, xkl⟩ := x
      simp only at c0 c3 hb4 hc0
      have HC0 := hid hc0
      have OK := hid ok.b
      have hsum := wrapI (x := (k : Int) + 1) (by unfold I64; omega)
      have hgg : ¬ (ra : Int) < (ra : Int) := by omega
      clear hcell ok HO HN HOw HF hc0
      by_cases h1 : xd = 1
      · subst h1
        obtain ⟨a2, ha2⟩ : ∃ a2, ra + 1 = a2 := ⟨_, rfl⟩
        have HA2 := hid ha2
        have hgt : (ra : Int) < (a2 : Int) := by omega
        clear ha2
        go_wp2_with (first
          | (go_at_call 15
             refine (commit_any FF.out.wd.dk FF.out.wd.st (HT.out.kp0 KP.out) FF.out.wd.two OK.out (by omega) (HT.out.ne hlo.1 hlo.2.1 hlo.2.2)).mono ?_
             intro e w3 hc
             obtain ⟨rfl, k3, s3, W3⟩ := FF.out.wd.com (by omega) (by simp only; omega) hc
             simp only [HA2.out] at W3
             have G3 := hid (FF.out.go k3 W3).gx
             have K3 := hid (show Kp No w w3 from KP.out.step k3 fun i hi e => by rcases e with e | e | e | e <;> omega)
             clear hc k3 W3 c0 c3
             obtain ⟨c0, c3⟩ := HC0.out _ K3.out)
          | (go_at_call 12
             refine (image_any (show Str _ q g b m 19 a2 true xbl from G3.out.wd.st)).mono ?_
             rintro e w5 ⟨u5, rfl, o5, k5⟩
             obtain ⟨A5, c5, rfl⟩ := o5.form
             have G5 := hid ((G3.out.kp0 k5).more (o5.byu (Q := Anyb) fun _ _ => trivial))
             have K5 := hid (K3.out.trans k5)
             clear o5 k5)
          | (go_at_call 11
             refine (age_any (show Str _ q g b m 19 a2 true xbl from G5.out.wd.st)).mono ?_
             rintro e w6 ⟨rfl, rfl⟩)
          | (go_at_call 11
             refine (age_any (show Str _ q g b m 19 a2 true xbl from G3.out.wd.st)).mono ?_
             rintro e w6 ⟨rfl, rfl⟩)
          | (go_at_call 11
             refine (age_any (show Str _ q g b m 19 ra rh ri from FF.out.wd.st)).mono ?_
             rintro e w6 ⟨rfl, rfl⟩)
          | (at_builtin
             refine wp_row1 usI rfl (.tmp 92) (.tmp 95) rfl (y := .int .i64 (a2 : Int)) (by exact G5.out.ra.kp0 ((Kp.refl No w6).alloc (.cells #[.int .i64 (a2 : Int)] 3))) rfl (by exact (Blk.new w6 3 #[.int .i64 (a2 : Int)]).cell 0) rfl (by simp; omega) (by simp [maxLen]; omega) (by exact (K5.out.alloc _).size) ?_
             intro v9' w7 o7 k7
             have K7 := hid ((K5.out.alloc (.cells #[.int .i64 (a2 : Int)] 3)).step k7 fun i hi hs => by have := ((G5.out.ra.kp0 ((Kp.refl No w6).alloc (.cells #[.int .i64 (a2 : Int)] 3))).te hs).2; omega)
             have G7 := hid ((G5.out.kp0 ((Kp.refl No w6).alloc (.cells #[.int .i64 (a2 : Int)] 3))).ap9 k7 o7)
             clear o7 k7)
          | (at_builtin
             refine wp_row1 usZ rfl (.tmp 97) (.tmp 99) rfl (y := .bool true) (by exact G7.out.rb.kp0 ((Kp.refl No w7).alloc (.cells #[.bool true] 4))) rfl (by exact (Blk.new w7 4 #[.bool true]).cell 0) rfl (by simp; omega) (by simp [maxLen]; omega) (by exact (K7.out.alloc _).size) ?_
             intro v10' w8 o8 k8
             have K8 := hid ((K7.out.alloc (.cells #[.bool true] 4)).step k8 fun i hi hs => by have := ((G7.out.rb.kp0 ((Kp.refl No w7).alloc (.cells #[.bool true] 4))).te hs).2; omega)
             have G8 := hid ((G7.out.kp0 ((Kp.refl No w7).alloc (.cells #[.bool true] 4))).ap10 k8 o8)
             clear o8 k8)
          | (at_builtin
             refine wp_row1 usB rfl (.tmp 101) (.tmp 103) rfl (y := .slice A5 (xbl).length c5) (by exact G8.out.rc.kp0 ((Kp.refl No w8).alloc (.cells #[.slice A5 (xbl).length c5] 23))) rfl (by exact (Blk.new w8 23 #[.slice A5 (xbl).length c5]).cell 0) rfl (by omega) (by simp only [maxLen]; omega) (by exact (K8.out.alloc _).size) ?_
             intro v11' w9 o9 k9
             have K9 := hid ((K8.out.alloc (.cells #[.slice A5 (xbl).length c5] 23)).step k9 fun i hi hs => by have := ((G8.out.rc.kp0 ((Kp.refl No w8).alloc (.cells #[.slice A5 (xbl).length c5] 23))).te hs).2; omega)
             have G9 := hid ((G8.out.kp0 ((Kp.refl No w8).alloc (.cells #[.slice A5 (xbl).length c5] 23))).ap11 k9 o9)
             have F9 := hid (show ∃ s r r' hs us, FI w q g b m (k + 1) v9' v10' v11' s r r' hs us w9 from ⟨_, _, _, _, _, FI.of (r2 := (a2, true, xbl)) FF.out.hi FF.out.ul (by simp only; have := HA2.out; omega) (by have := HA2.out; simp only; omega) G9.out⟩)
             clear o9 k9))
        go_roundw
        case rel => exact ⟨k + 1, by omega, by go_num, F9, K9⟩
        case measure => simp [intOf]; omega
      · have n1 : (xd == 1) = false := by simp [h1]
        by_cases h2 : xd = 2
        · subst h2
          cases rh with
          | true =>
            obtain ⟨a2, ha2⟩ : ∃ a2, ra + 1 = a2 := ⟨_, rfl⟩
            have HA2 := hid ha2
            have hgt : (ra : Int) < (a2 : Int) := by omega
            clear ha2
            go_wp2_with (first
              | (go_at_call 14
                 refine (delete_any FF.out.wd.dk FF.out.wd.st (HT.out.kp0 KP.out) (by have := FF.out.wd.two; omega)).mono ?_
                 intro e w3 hc
                 obtain ⟨rfl, k3, s3, W3⟩ := FF.out.wd.del rfl (by simp only; omega) hc
                 simp only [HA2.out] at W3
                 have G3 := hid (FF.out.go k3 W3).gx
                 have K3 := hid (show Kp No w w3 from KP.out.step k3 fun i hi e => by rcases e with e | e | e | e <;> omega)
                 clear hc k3 W3 c0 c3)
              | (go_at_call 12
                 refine (image_any (show Str _ q g b m 19 a2 false ([] : List Int) from G3.out.wd.st)).mono ?_
                 rintro e w5 ⟨u5, rfl, o5, k5⟩
                 obtain ⟨A5, c5, rfl⟩ := o5.form
                 have G5 := hid ((G3.out.kp0 k5).more (o5.byu (Q := Anyb) fun _ _ => trivial))
                 have K5 := hid (K3.out.trans k5)
                 clear o5 k5)
              | (go_at_call 11
                 refine (age_any (show Str _ q g b m 19 a2 false ([] : List Int) from G5.out.wd.st)).mono ?_
                 rintro e w6 ⟨rfl, rfl⟩)
              | (go_at_call 11
                 refine (age_any (show Str _ q g b m 19 a2 false ([] : List Int) from G3.out.wd.st)).mono ?_
                 rintro e w6 ⟨rfl, rfl⟩)
              | (go_at_call 11
                 refine (age_any (show Str _ q g b m 19 ra true ri from FF.out.wd.st)).mono ?_
                 rintro e w6 ⟨rfl, rfl⟩)
              | (at_builtin
                 refine wp_row1 usI rfl (.tmp 92) (.tmp 95) rfl (y := .int .i64 (a2 : Int)) (by exact G5.out.ra.kp0 ((Kp.refl No w6).alloc (.cells #[.int .i64 (a2 : Int)] 3))) rfl (by exact (Blk.new w6 3 #[.int .i64 (a2 : Int)]).cell 0) rfl (by simp; omega) (by simp [maxLen]; omega) (by exact (K5.out.alloc _).size) ?_
                 intro v9' w7 o7 k7
                 have K7 := hid ((K5.out.alloc (.cells #[.int .i64 (a2 : Int)] 3)).step k7 fun i hi hs => by have := ((G5.out.ra.kp0 ((Kp.refl No w6).alloc (.cells #[.int .i64 (a2 : Int)] 3))).te hs).2; omega)
                 have G7 := hid ((G5.out.kp0 ((Kp.refl No w6).alloc (.cells #[.int .i64 (a2 : Int)] 3))).ap9 k7 o7)
                 clear o7 k7)
              | (at_builtin
                 refine wp_row1 usZ rfl (.tmp 97) (.tmp 99) rfl (y := .bool false) (by exact G7.out.rb.kp0 ((Kp.refl No w7).alloc (.cells #[.bool false] 4))) rfl (by exact (Blk.new w7 4 #[.bool false]).cell 0) rfl (by simp; omega) (by simp [maxLen]; omega) (by exact (K7.out.alloc _).size) ?_
                 intro v10' w8 o8 k8
                 have K8 := hid ((K7.out.alloc (.cells #[.bool false] 4)).step k8 fun i hi hs => by have := ((G7.out.rb.kp0 ((Kp.refl No w7).alloc (.cells #[.bool false] 4))).te hs).2; omega)
                 have G8 := hid ((G7.out.kp0 ((Kp.refl No w7).alloc (.cells #[.bool false] 4))).ap10 k8 o8)
                 clear o8 k8)
              | (at_builtin
                 refine wp_row1 usB rfl (.tmp 101) (.tmp 103) rfl (y := .slice A5 (([] : List Int)).length c5) (by exact G8.out.rc.kp0 ((Kp.refl No w8).alloc (.cells #[.slice A5 (([] : List Int)).length c5] 23))) rfl (by exact (Blk.new w8 23 #[.slice A5 (([] : List Int)).length c5]).cell 0) rfl (by omega) (by simp only [maxLen]; omega) (by exact (K8.out.alloc _).size) ?_
                 intro v11' w9 o9 k9
                 have K9 := hid ((K8.out.alloc (.cells #[.slice A5 (([] : List Int)).length c5] 23)).step k9 fun i hi hs => by have := ((G8.out.rc.kp0 ((Kp.refl No w8).alloc (.cells #[.slice A5 (([] : List Int)).length c5] 23))).te hs).2; omega)
                 have G9 := hid ((G8.out.kp0 ((Kp.refl No w8).alloc (.cells #[.slice A5 (([] : List Int)).length c5] 23))).ap11 k9 o9)
                 have F9 := hid (show ∃ s r r' hs us, FI w q g b m (k + 1) v9' v10' v11' s r r' hs us w9 from ⟨_, _, _, _, _, FI.of (r2 := (a2, false, ([] : List Int))) FF.out.hi FF.out.ul (by simp only; have := HA2.out; omega) (by have := HA2.out; simp only; omega) G9.out⟩)
                 clear o9 k9))
            go_roundw
            case rel => exact ⟨k + 1, by omega, by go_num, F9, K9⟩
            case measure => simp [intOf]; omega
          | false =>
            go_wp2_with (first
              | (go_at_call 14
                 refine (delete_any FF.out.wd.dk FF.out.wd.st (HT.out.kp0 KP.out) (by have := FF.out.wd.two; omega)).mono ?_
                 intro e w3 hc
                 obtain ⟨rfl, k3, W3⟩ := FF.out.wd.none rfl hc
                 have F3 := hid (FF.out.stay k3 W3)
                 have K3 := hid (show Kp No w w3 from KP.out.step k3 fun i hi e => by rcases e with e | e | e | e <;> omega)
                 clear hc k3 W3 c0 c3)
              | (go_at_call 11
                 refine (age_any (show Str _ q g b m 19 ra false ri from F3.out.wd.st)).mono ?_
                 rintro e w6 ⟨rfl, rfl⟩)
              | (go_at_call 11
                 refine (age_any (show Str _ q g b m 19 ra false ri from FF.out.wd.st)).mono ?_
                 rintro e w6 ⟨rfl, rfl⟩))
            go_roundw
            case rel => exact ⟨k + 1, by omega, by go_num, hid ⟨_, _, _, _, _, F3.out⟩, K3⟩
            case measure => simp [intOf]; omega
        · have n2 : (xd == 2) = false := by simp [h2]
          clear h1 h2
          have F3 := hid (FF.out.stay (Kp.refl _ _) FF.out.wd)
          go_wp2_with (first
            | (go_at_call 11
               refine (age_any (show Str _ q g b m 19 ra rh ri from FF.out.wd.st)).mono ?_
               rintro e w6 ⟨rfl, rfl⟩))
          go_roundw
          case rel => exact ⟨k + 1, by omega, by go_num, hid ⟨_, _, _, _, _, F3.out⟩, KP⟩
          case measure => simp [intOf]; omega
    · clear HF HN HO
      have hrk20 : ra ≤ 20 := by omega
      obtain ⟨N, hNe⟩ : ∃ N, ra + 1 = N := ⟨_, rfl⟩
      obtain ⟨p9, c9, p10, c10, p11, c11, rfl, rfl, rfl, hro⟩ := FF.out.ro (N := N) hNe.symm
      have HRO := hid hro
      have HNE := hid hNe
      have HLA := hid (show hs.getD ra h0 = (ra, rh, ri) from FF.out.hi.last)
      have hw1 : IntKind.i64.wrap ((N : Int) - 1) = (ra : Int) := by rw [wrapI (x := (N : Int) - 1) (by unfold I64; omega)]; omega
      obtain ⟨sz, hsz⟩ : ∃ sz, ri.length = sz := ⟨_, rfl⟩
      have hsz2 : sz ≤ 1216 := by have := FF.out.wd.st.len; simp only at this; omega
      clear hro
      by_cases h2 : (N : Int) < 2
      · have hra : N = 1 := by omega
        clear hNe hw1
        subst hra
        go_wp2
        go_ret
        exact ⟨rfl, KP.out⟩
      · obtain ⟨r1, hr1⟩ : ∃ r1, ra - 1 = r1 := ⟨_, rfl⟩
        have hw2 : IntKind.i64.wrap ((N : Int) - 2) = (r1 : Int) := by rw [wrapI (x := (N : Int) - 2) (by unfold I64; omega)]; omega
        have HPR := hid (show hs.getD r1 h0 = (r1, r'.1, r'.2) from by have := FF.out.hi.prev (by simp only; omega); simpa only [hr1] using this)
        have hl1 : (ra : Int) < (N : Int) := by omega
        have hl2 : (r1 : Int) < (N : Int) := by omega
        obtain ⟨hd, hhd⟩ : ∃ hd, ra % 2 = hd := ⟨_, rfl⟩
        have hm1 : (ra : Int).tmod 2 = (hd : Int) := by rw [Int.tmod_eq_emod_of_nonneg (by omega)]; omega
        obtain ⟨tb, htb⟩ : ∃ tb, bn % 200 = tb := ⟨_, rfl⟩
        have hm2 : (bn : Int).tmod 200 = (tb : Int) := by rw [Int.tmod_eq_emod_of_nonneg (by omega)]; omega
        have hwb := wrapI (x := (bn : Int)) (by unfold I64; omega)
        have hwhd := wrapI (x := (hd : Int)) (by unfold I64; omega)
        have hwtb := wrapI (x := (tb : Int)) (by unfold I64; omega)
        obtain ⟨_, _, Ai, ci, hci, _⟩ := HRO.out _ (Kp.refl _ _) ra (by omega)
        rw [HLA.out] at hci
        simp only at hci
        rw [hsz] at hci
        have hra1 : 1 ≤ ra := by omega
        by_cases hodd : 0 < sz ∧ wi % 2 = 1
        · have hs0 : (0 : Int) < (sz : Int) := by omega
          have hmw : (wi : Int).tmod 2 = 1 := by rw [Int.tmod_eq_emod_of_nonneg (by omega)]; omega
          obtain ⟨s8, hs8⟩ : ∃ s8, 8 * sz = s8 := ⟨_, rfl⟩
          have hw8 : IntKind.i64.wrap (8 * (sz : Int)) = (s8 : Int) := by rw [wrapI (x := 8 * (sz : Int)) (by unfold I64; omega)]; omega
          obtain ⟨at', hat⟩ : ∃ at', bn % s8 = at' := ⟨_, rfl⟩
          have hatl : at' < s8 := by rw [← hat]; exact Nat.mod_lt _ (by omega)
          have hm3 : (bn : Int).tmod (s8 : Int) = (at' : Int) := by rw [Int.tmod_eq_emod_of_nonneg (by omega), ← hat]; rfl
          have hne8 : ¬ (s8 : Int) = 0 := by omega
          have hnb8 : ((s8 : Int) == 0) = false := by simp; omega
          have hwat := wrapI (x := (at' : Int)) (by unfold I64; omega)
          obtain ⟨ti, hti'⟩ : ∃ ti, at' % 512 = ti := ⟨_, rfl⟩
          have hm4 : (at' : Int).tmod 512 = (ti : Int) := by rw [Int.tmod_eq_emod_of_nonneg (by omega)]; omega
          obtain ⟨ad, had⟩ : ∃ ad, at' / 512 = ad := ⟨_, rfl⟩
          have hm5 : (at' : Int).tdiv 512 = (ad : Int) := by rw [Int.tdiv_eq_ediv_of_nonneg (by omega)]; omega
          have hm6 : (at' : Int) / 512 = (ad : Int) := by omega
          have hwad := wrapI (x := (ad : Int)) (by unfold I64; omega)
          have hwti := wrapI (x := (ti : Int)) (by unfold I64; omega)
          obtain ⟨h19, hh19⟩ : ∃ x, 19 * hd = x := ⟨_, rfl⟩
          have hw19 : IntKind.i64.wrap (19 * (hd : Int)) = (h19 : Int) := by rw [wrapI (x := 19 * (hd : Int)) (by unfold I64; omega)]; omega
          obtain ⟨h21, hh21⟩ : ∃ x, 2 + h19 = x := ⟨_, rfl⟩
          have hw21 : IntKind.i64.wrap (2 + (h19 : Int)) = (h21 : Int) := by rw [wrapI (x := 2 + (h19 : Int)) (by unfold I64; omega)]; omega
          obtain ⟨si, hsi'⟩ : ∃ x, h21 + ad = x := ⟨_, rfl⟩
          have hwsi : IntKind.i64.wrap ((h21 : Int) + (ad : Int)) = (si : Int) := by rw [wrapI (x := (h21 : Int) + (ad : Int)) (by unfold I64; omega)]; omega
          have HSI := hid (show si < 40 ∧ ti < 512 ∧ opn (look (rotted s si ti)) 19 = (r1, r'.1, r'.2) from ⟨by omega, by omega, by
            have := falls_image (at' := at') FF.out.wd.cl FF.out.wd.two FF.out.wd.dk.ok.sec FF.out.wd.gd (by simp only; omega) (by simp only; rw [hsz]; omega)
            simp only at this
            rw [show 2 + ra % 2 * 19 + at' / 512 = si by omega, hti', hr1] at this
            exact this⟩)
          clear hNe hr1 hhd htb hsz hs8 hat hti' had hh19 hh21 hsi' hhl hul
          have hsi : si < (s.k).length := by have := HSI.out.1; have := FF.out.wd.kl; omega
          have hti : ti < 512 := HSI.out.2.1
          go_wp2_with (first
            | (go_at_call 11
               refine (age_any (show Str _ q g b m 19 ra rh ri from FF.out.wd.st)).mono ?_
               rintro e w6 ⟨rfl, rfl⟩)
            | (go_at_call 20
               refine (rot_is FF.out.wd.dk hsi hti).mono ?_
               rintro e w1 ⟨⟨x1, rfl⟩, k1, d1⟩
               have D1 := hid d1
               have K1 := hid k1
               have T1 := hid (HT.out.kp0 (KP.out.step k1 fun i hi e => by have : i = b := e; omega))
               clear d1 k1 hci)
            | (go_at_call 18
               refine (open_is D1.out T1.out (off_on (show (rotted s si ti).armed = false from FF.out.wd.on)) (by have := FF.out.wd.kl; simp [rotted]; omega)).mono ?_
               rintro e w2 ⟨q2, rfl, hq2, s2, k2⟩
               rw [show ((rotted s si ti).k.length - 2) / 2 = 19 by have := FF.out.wd.kl; simp [rotted]; omega, HSI.out.2.2] at s2
               have S2 := hid s2
               have K2 := hid (K1.out.trans k2.all)
               have D2 := hid (D1.out.kp0 k2)
               clear s2 k2 hq2))

          obtain ⟨y9, y10, A1, c1, y11, b1⟩ := HRO.out _ K2.out.drew r1 (by have := HNE.out; omega)
          rw [HPR.out] at y9 y10 y11 b1
          simp only at y9 y10 y11 b1
          have B1 := hid b1
          clear b1
          refine region_tail 23 (by kernel_rfl) (by kernel_rfl) ?_
          simp only [List.take_succ_cons, List.take_zero, List.drop_succ_cons, List.drop_zero]
          repeat still_step
          refine wpStill_nil ?_
          go_wp2_with (first
            | (go_at_call 16
               refine (lsame_any (Sto.kp0 S2.out (Kp.refl No _).drew) B1.out.byt _ _).mono ?_
               rintro e w3 ⟨rfl, k3⟩
               rw [isThat_eq (r := (r1, r'.1, r'.2)) (x := (r1 : Int)) rfl]
               have K3 := hid (K2.out.drew.trans k3.all)
               have D3 := hid (D2.out.kp0 ((Kp.refl No _).drew.trans k3))
               clear k3 y9 y10 y11)
            | (go_at_call 20
               refine (rot_is D3.out (by simpa [rotted] using hsi) hti).mono ?_
               rintro e w4 ⟨⟨x4, rfl⟩, k4, d4⟩
               rw [rot_twice (fun l hl => FF.out.wd.dk.ok.sec l hl) hsi hti] at d4
               have D4 := hid d4
               have K4 := hid (K3.out.trans k4)
               have T4 := hid (HT.out.kp0 (KP.out.step K4.out fun i hi e => by have : i = b := e; omega))
               clear d4 k4)
            | (go_at_call 18
               refine (open_is D4.out T4.out FF.out.wd.off (by have := FF.out.wd.kl; omega)).mono ?_
               rintro e w5 ⟨q5, rfl, hq5, s5, k5⟩
               rw [show (s.k.length - 2) / 2 = 19 by have := FF.out.wd.kl; omega, FF.out.wd.found] at s5
               have S5 := hid s5
               have K5 := hid (K4.out.trans k5.all)
               clear s5 k5 hq5))
          obtain ⟨z9, z10, A2, c2, z11, b2⟩ := HRO.out _ K5.out.drew ra (by have := HNE.out; omega)
          rw [HLA.out] at z9 z10 z11 b2
          simp only at z9 z10 z11 b2
          have B2 := hid b2
          clear b2
          refine region_tail 26 (by kernel_rfl) (by kernel_rfl) ?_
          simp only [List.take_succ_cons, List.take_zero, List.drop_succ_cons, List.drop_zero]
          repeat still_step
          refine wpStill_nil ?_
          go_wp2_with (first
            | (go_at_call 16
               refine (lsame_any (Sto.kp0 S5.out (Kp.refl No _).drew) B2.out.byt _ _).mono ?_
               rintro e w7 ⟨rfl, k7⟩
               rw [isThat_eq (r := (ra, rh, ri)) (x := (ra : Int)) rfl]
               have K7 := hid (KP.out.step (K5.out.drew.trans k7.all) fun i hi e => by have : i = b := e; omega)
               clear k7 z9 z10 z11))
          go_ret
          exact ⟨by simp, K7.out⟩
        · have HSI := hid (show hd < 40 ∧ tb < 512 ∧ opn (look (rotted s hd tb)) 19 = (r1, r'.1, r'.2) from ⟨by omega, by omega, by
            have := falls_head (t := tb) FF.out.wd.cl (by have := FF.out.wd.two; omega) FF.out.wd.gd (by simp only; omega) (by omega)
            simp only at this
            rw [hhd, hr1] at this
            exact this⟩)
          clear hNe hr1 hhd htb hhl hul
          by_cases hs0' : 0 < sz
          · have hs0 : (0 : Int) < (sz : Int) := by omega
            have hmw : (wi : Int).tmod 2 = 0 := by rw [Int.tmod_eq_emod_of_nonneg (by omega)]; omega
            clear hsz hodd
            have hsi : hd < (s.k).length := by have := HSI.out.1; have := FF.out.wd.kl; omega
            have hti : tb < 512 := HSI.out.2.1
            go_wp2_with (first
              | (go_at_call 11
                 refine (age_any (show Str _ q g b m 19 ra rh ri from FF.out.wd.st)).mono ?_
                 rintro e w6 ⟨rfl, rfl⟩)
              | (go_at_call 20
                 refine (rot_is FF.out.wd.dk hsi hti).mono ?_
                 rintro e w1 ⟨⟨x1, rfl⟩, k1, d1⟩
                 have D1 := hid d1
                 have K1 := hid k1
                 have T1 := hid (HT.out.kp0 (KP.out.step k1 fun i hi e => by have : i = b := e; omega))
                 clear d1 k1 hci)
              | (go_at_call 18
                 refine (open_is D1.out T1.out (off_on (show (rotted s hd tb).armed = false from FF.out.wd.on)) (by have := FF.out.wd.kl; simp [rotted]; omega)).mono ?_
                 rintro e w2 ⟨q2, rfl, hq2, s2, k2⟩
                 rw [show ((rotted s hd tb).k.length - 2) / 2 = 19 by have := FF.out.wd.kl; simp [rotted]; omega, HSI.out.2.2] at s2
                 have S2 := hid s2
                 have K2 := hid (K1.out.trans k2.all)
                 have D2 := hid (D1.out.kp0 k2)
                 clear s2 k2 hq2))

            obtain ⟨y9, y10, A1, c1, y11, b1⟩ := HRO.out _ K2.out.drew r1 (by have := HNE.out; omega)
            rw [HPR.out] at y9 y10 y11 b1
            simp only at y9 y10 y11 b1
            have B1 := hid b1
            clear b1
            refine region_tail 23 (by kernel_rfl) (by kernel_rfl) ?_
            simp only [List.take_succ_cons, List.take_zero, List.drop_succ_cons, List.drop_zero]
            repeat still_step
            refine wpStill_nil ?_
            go_wp2_with (first
              | (go_at_call 16
                 refine (lsame_any (Sto.kp0 S2.out (Kp.refl No _).drew) B1.out.byt _ _).mono ?_
                 rintro e w3 ⟨rfl, k3⟩
                 rw [isThat_eq (r := (r1, r'.1, r'.2)) (x := (r1 : Int)) rfl]
                 have K3 := hid (K2.out.drew.trans k3.all)
                 have D3 := hid (D2.out.kp0 ((Kp.refl No _).drew.trans k3))
                 clear k3 y9 y10 y11)
              | (go_at_call 20
                 refine (rot_is D3.out (by simpa [rotted] using hsi) hti).mono ?_
                 rintro e w4 ⟨⟨x4, rfl⟩, k4, d4⟩
                 rw [rot_twice (fun l hl => FF.out.wd.dk.ok.sec l hl) hsi hti] at d4
                 have D4 := hid d4
                 have K4 := hid (K3.out.trans k4)
                 have T4 := hid (HT.out.kp0 (KP.out.step K4.out fun i hi e => by have : i = b := e; omega))
                 clear d4 k4)
              | (go_at_call 18
                 refine (open_is D4.out T4.out FF.out.wd.off (by have := FF.out.wd.kl; omega)).mono ?_
                 rintro e w5 ⟨q5, rfl, hq5, s5, k5⟩
                 rw [show (s.k.length - 2) / 2 = 19 by have := FF.out.wd.kl; omega, FF.out.wd.found] at s5
                 have S5 := hid s5
                 have K5 := hid (K4.out.trans k5.all)
                 clear s5 k5 hq5))
            obtain ⟨z9, z10, A2, c2, z11, b2⟩ := HRO.out _ K5.out.drew ra (by have := HNE.out; omega)
            rw [HLA.out] at z9 z10 z11 b2
            simp only at z9 z10 z11 b2
            have B2 := hid b2
            clear b2
            refine region_tail 26 (by kernel_rfl) (by kernel_rfl) ?_
            simp only [List.take_succ_cons, List.take_zero, List.drop_succ_cons, List.drop_zero]
            repeat still_step
            refine wpStill_nil ?_
            go_wp2_with (first
              | (go_at_call 16
                 refine (lsame_any (Sto.kp0 S5.out (Kp.refl No _).drew) B2.out.byt _ _).mono ?_
                 rintro e w7 ⟨rfl, k7⟩
                 rw [isThat_eq (r := (ra, rh, ri)) (x := (ra : Int)) rfl]
                 have K7 := hid (KP.out.step (K5.out.drew.trans k7.all) fun i hi e => by have : i = b := e; omega)
                 clear k7 z9 z10 z11))
            go_ret
            exact ⟨by simp, K7.out⟩
          · have hs0 : ¬ (0 : Int) < (sz : Int) := by omega
            clear hsz hodd
            have hsi : hd < (s.k).length := by have := HSI.out.1; have := FF.out.wd.kl; omega
            have hti : tb < 512 := HSI.out.2.1
            go_wp2_with (first
              | (go_at_call 11
                 refine (age_any (show Str _ q g b m 19 ra rh ri from FF.out.wd.st)).mono ?_
                 rintro e w6 ⟨rfl, rfl⟩)
              | (go_at_call 20
                 refine (rot_is FF.out.wd.dk hsi hti).mono ?_
                 rintro e w1 ⟨⟨x1, rfl⟩, k1, d1⟩
                 have D1 := hid d1
                 have K1 := hid k1
                 have T1 := hid (HT.out.kp0 (KP.out.step k1 fun i hi e => by have : i = b := e; omega))
                 clear d1 k1 hci)
              | (go_at_call 18
                 refine (open_is D1.out T1.out (off_on (show (rotted s hd tb).armed = false from FF.out.wd.on)) (by have := FF.out.wd.kl; simp [rotted]; omega)).mono ?_
                 rintro e w2 ⟨q2, rfl, hq2, s2, k2⟩
                 rw [show ((rotted s hd tb).k.length - 2) / 2 = 19 by have := FF.out.wd.kl; simp [rotted]; omega, HSI.out.2.2] at s2
                 have S2 := hid s2
                 have K2 := hid (K1.out.trans k2.all)
                 have D2 := hid (D1.out.kp0 k2)
                 clear s2 k2 hq2))

            obtain ⟨y9, y10, A1, c1, y11, b1⟩ := HRO.out _ K2.out.drew r1 (by have := HNE.out; omega)
            rw [HPR.out] at y9 y10 y11 b1
            simp only at y9 y10 y11 b1
            have B1 := hid b1
            clear b1
            refine region_tail 23 (by kernel_rfl) (by kernel_rfl) ?_
            simp only [List.take_succ_cons, List.take_zero, List.drop_succ_cons, List.drop_zero]
            repeat still_step
            refine wpStill_nil ?_
            go_wp2_with (first
              | (go_at_call 16
                 refine (lsame_any (Sto.kp0 S2.out (Kp.refl No _).drew) B1.out.byt _ _).mono ?_
                 rintro e w3 ⟨rfl, k3⟩
                 rw [isThat_eq (r := (r1, r'.1, r'.2)) (x := (r1 : Int)) rfl]
                 have K3 := hid (K2.out.drew.trans k3.all)
                 have D3 := hid (D2.out.kp0 ((Kp.refl No _).drew.trans k3))
                 clear k3 y9 y10 y11)
              | (go_at_call 20
                 refine (rot_is D3.out (by simpa [rotted] using hsi) hti).mono ?_
                 rintro e w4 ⟨⟨x4, rfl⟩, k4, d4⟩
                 rw [rot_twice (fun l hl => FF.out.wd.dk.ok.sec l hl) hsi hti] at d4
                 have D4 := hid d4
                 have K4 := hid (K3.out.trans k4)
                 have T4 := hid (HT.out.kp0 (KP.out.step K4.out fun i hi e => by have : i = b := e; omega))
                 clear d4 k4)
              | (go_at_call 18
                 refine (open_is D4.out T4.out FF.out.wd.off (by have := FF.out.wd.kl; omega)).mono ?_
                 rintro e w5 ⟨q5, rfl, hq5, s5, k5⟩
                 rw [show (s.k.length - 2) / 2 = 19 by have := FF.out.wd.kl; omega, FF.out.wd.found] at s5
                 have S5 := hid s5
                 have K5 := hid (K4.out.trans k5.all)
                 clear s5 k5 hq5))
            obtain ⟨z9, z10, A2, c2, z11, b2⟩ := HRO.out _ K5.out.drew ra (by have := HNE.out; omega)
            rw [HLA.out] at z9 z10 z11 b2
            simp only at z9 z10 z11 b2
            have B2 := hid b2
            clear b2
            refine region_tail 26 (by kernel_rfl) (by kernel_rfl) ?_
            simp only [List.take_succ_cons, List.take_zero, List.drop_succ_cons, List.drop_zero]
            repeat still_step
            refine wpStill_nil ?_
            go_wp2_with (first
              | (go_at_call 16
                 refine (lsame_any (Sto.kp0 S5.out (Kp.refl No _).drew) B2.out.byt _ _).mono ?_
                 rintro e w7 ⟨rfl, k7⟩
                 rw [isThat_eq (r := (ra, rh, ri)) (x := (ra : Int)) rfl]
                 have K7 := hid (KP.out.step (K5.out.drew.trans k7.all) fun i hi e => by have : i = b := e; omega)
                 clear k7 z9 z10 z11))
            go_ret
            exact ⟨by simp, K7.out⟩
end Go.Proofs.YteficflfmbecbaaDoor

/-
  The walk of ShelfPlays.
-/
import Derived.Test.YtlkbjfjjfifbmaaSU
namespace Go.Proofs.Ytlkbjfjjfifbmaa
open Go.RowKit

theorem at_both (l : List It) (r : Int) : ∃ (y : It) (q : Bool),
    (∀ (w : World) (g : Nat) (S : Nat → Prop), Shf w g S l → Calls Try.prog 27 #[.pointer (some ⟨g, 0, none⟩), .int .i64 r] w fun e w' => e = .returned (.tuple #[.agg #[.int .i64 y.key, .int .i64 y.id], .bool q]) ∧ Kp No w w') ∧
    (∀ (w : World) (v : Value), Rw 2 itc it0 w Anyb v l → Calls Try.prog 28 #[v, .int .i64 r] w fun e w' => e = .returned (.tuple #[.agg #[.int .i64 y.key, .int .i64 y.id], .bool q]) ∧ Kp No w w') := by
  by_cases h : r < 0 ∨ (l.length : Int) ≤ r
  · exact ⟨it0, false, fun w g S hs => at_out hs r h, fun w v hv => refat_out hv r h⟩
  · obtain ⟨k, rfl⟩ : ∃ k : Nat, r = (k : Int) := ⟨r.toNat, by omega⟩
    have hk : k < l.length := by omega
    exact ⟨l.getD k it0, true, fun w g S hs => at_is hs k hk _ rfl, fun w v hv => refat_in hv k hk rfl⟩

/-- What a region's calls keep. -/
structure Pz (w w3 : World) (g : Nat) (S : Nat → Prop) (l : List It) (w' : World) : Prop where
  kw : Kp No w w'
  k3 : Kp No w3 w'
  shf : Shf w' g S l
theorem Pz.kp0 {w w3 : World} {g : Nat} {S : Nat → Prop} {l : List It} {a b : World} (h : Pz w w3 g S l a) (k : Kp No a b) : Pz w w3 g S l b :=
  ⟨h.kw.trans k, h.k3.trans k, h.shf.kp0 k⟩

/-- What the last region's calls keep. -/
structure Pe (w w3 w7 : World) (g : Nat) (S : Nat → Prop) (l : List It) (w' : World) : Prop where
  kw : Kp No w w'
  k3 : Kp No w3 w'
  k7 : Kp No w7 w'
  shf : Shf w' g S l
theorem Pe.kp0 {w w3 w7 : World} {g : Nat} {S : Nat → Prop} {l : List It} {a b : World} (h : Pe w w3 w7 g S l a) (k : Kp No a b) : Pe w w3 w7 g S l b :=
  ⟨h.kw.trans k, h.k3.trans k, h.k7.trans k, h.shf.kp0 k⟩

/-- The shelf and the document's list, apart from each other. -/
def PI (w : World) (g : Nat) (v : Value) (l : List It) (wr : World) : Prop :=
  ∃ S P : Nat → Prop, Kp No w wr ∧ Shf wr g S l ∧ Rw 2 itc it0 wr P v l ∧ (∀ i, S i → ¬ P i) ∧ (∀ i, S i → w.heap.size ≤ i)

set_option maxRecDepth 100000 in
set_option maxHeartbeats 2000000 in
theorem shelfPlays_walk (w : World) (v : Value) (x : It) (rank : Int) {ops : List Op} (hv : Rw 3 oc op0 w Anyb v ops) :
    Calls Try.prog 3 #[v, .agg #[.int .i64 x.key, .int .i64 x.id], .int .i64 rank] w fun e w' => e = .returned (.bool true) ∧ Kp No w w' := by
  have HV := hid hv
  obtain ⟨A, vc, rfl, hc, hm, hr⟩ := hv
  clear hr
  simp only [maxLen] at hm
  go_enter Try.func3, Try.ntmps3
  go_wp2_with fail
  have bx := Blk.new w 24 #[.int .i64 x.key, .int .i64 x.id]
  have k0 := (Kp.refl No w).alloc (.cells #[.int .i64 x.key, .int .i64 x.id] 24)
  generalize hw0 : w.alloc (.cells #[.int .i64 x.key, .int .i64 x.id] 24) = w0 at bx k0 ⊢
  clear hw0
  have BX := hid bx
  have K0 := hid k0
  clear bx k0
  refine (awake_any w0).mono ?_
  rintro e w1 ⟨rfl, k1⟩
  have K1 := hid (K0.out.trans k1)
  have V1 := hid (HV.out.kp0 K1.out)
  have B1 := hid (BX.out.kp0 k1)
  clear k1 HV BX K0
  by_cases hbig : 100 < ops.length
  · go_wp2_with fail
    go_ret
    exact ⟨rfl, K1.out⟩
  · have hl : ops.length ≤ 100 := by omega
    go_wp2_with fail
    refine (New_any w1).mono ?_
    rintro e w2 ⟨rfl, rfl⟩
    have h2 := Shf.new (S := fun k => k = w1.heap.size) w1 rfl
    have k2 := (Kp.refl No w1).alloc (.cells #[.slice none 0 0, .int .i64 0] 97)
    generalize w1.alloc (.cells #[.slice none 0 0, .int .i64 0] 97) = w2 at h2 k2 ⊢
    have I2 : Hid (PI w1 w1.heap.size (.slice none 0 0) [] w2) := hid ⟨_, No, k2, h2, Rw.nil _ _ _ _ _, fun _ _ h => h, fun i h => by rw [h]; exact Nat.le_refl _⟩
    clear h2 k2
    go_wp2_with fail
    go_loopw [9, 10] (fun lst i wr => ∃ k : Nat, k ≤ ops.length ∧ i = .int .i64 (k : Int) ∧ Hid (PI w1 w1.heap.size lst (play (ops.take k)) wr)) (fun _ i _ => ops.length - (intOf i).toNat)
    case atStart => exact ⟨0, by omega, rfl, by simpa [play] using I2⟩
    case round =>
      obtain ⟨k, hk, rfl, HI⟩ := hrel
      obtain ⟨S, P, K, HS, HL, hSP, hS1⟩ := HI.out
      clear HI
      have K := hid K
      have HS := hid HS
      have hSo := hid HS.out.sorted
      have hlen : (play (ops.take k)).length ≤ 100 := by have := play_len (ops.take k); simp at this; omega
      by_cases hlt : k < ops.length
      · have hki : (k : Int) < (ops.length : Int) := by omega
        obtain ⟨ob, oo, hA⟩ := V1.out.there (by omega)
        subst hA
        have HT := hid (take_at ops op0 hlt)
        have F : Hid (∀ w', Kp No w1 w' → w'.cell? ⟨ob, oo + k * 3, none⟩ = some (oc (ops.getD k op0) 0) ∧ w'.cell? ⟨ob, oo + k * 3 + 1, none⟩ = some (oc (ops.getD k op0) 1) ∧ w'.cell? ⟨ob, oo + k * 3 + 2, none⟩ = some (oc (ops.getD k op0) 2)) := hid fun w' hw => by
          have c0 := V1.out.cell hw hlt (i := 0) (by omega) rfl
          have c1 := V1.out.cell hw hlt (i := 1) (by omega) rfl
          have c2 := V1.out.cell hw hlt (i := 2) (by omega) rfl
          rw [Nat.add_zero] at c0
          rw [← Nat.add_assoc] at c1 c2
          exact ⟨c0, c1, c2⟩
        generalize ops.getD k op0 = o at F HT
        simp only [oc] at F
        generalize hpl : play (ops.take k) = l at HS HL hSo hlen
        have HPL := hid hpl
        clear hpl
        have HLh := hid HL
        obtain ⟨L0, lc0, rfl, hlc, hlm, hlr⟩ := HL
        clear hlr
        simp only [maxLen] at hlm
        obtain ⟨q, hq⟩ : ∃ q, decide (o.x ∈ l) = q := ⟨_, rfl⟩
        have HQ := hid hq
        clear hq
        have F0 := F.out _ K.out
        obtain ⟨c0, c1, -⟩ := F0
        go_wp2_with fail
        refine (refhas_any HLh.out.any o.x (by omega)).mono ?_
        rintro e w3 ⟨rfl, k3⟩
        rw [HQ.out]
        have K3 := hid (K.out.trans k3)
        have hw3 : Hid (w1.heap.size ≤ w3.heap.size) := hid K3.out.size
        have HS3 := hid (HS.out.kp0 k3)
        have HL3 := hid ((HLh.out.kp0 k3).mono (Q := fun i => P i ∧ i < w3.heap.size) fun i hi h => ⟨h, hi⟩)
        clear k3 K HS HLh c0 c1
        cases ho : o.out with
        | true =>
          have HO := hid ho
          have F := hid (show ∀ w', Kp No w1 w' → w'.cell? ⟨ob, oo + k * 3, none⟩ = some (.int .i64 o.x.key) ∧ w'.cell? ⟨ob, oo + k * 3 + 1, none⟩ = some (.int .i64 o.x.id) ∧ w'.cell? ⟨ob, oo + k * 3 + 2, none⟩ = some (.bool true) from fun w' hw => by rw [← HO.out]; exact F.out w' hw)
          clear ho
          obtain ⟨c0, c1, c2⟩ := F.out _ K3.out
          go_wp2_with fail
          refine (Drop_any HS3.out o.x).mono ?_
          rintro e w4 ⟨rfl, k4, h4⟩
          rw [HQ.out]
          have K4 := hid (K3.out.step k4 fun i hi h => absurd (hS1 i h) (by omega))
          have h4 : Shf w4 w1.heap.size (fun i => (S i ∨ w3.heap.size ≤ i) ∧ i < w4.heap.size) (dropL l o.x) := h4.mono fun i hi h => ⟨.inl h, hi⟩
          have HS4 := hid h4
          have HL4 := hid (HL3.out.kp k4 fun i _ hp hs => hSP i hs hp.1)
          have hw4 := hid k4.size
          clear h4 k4
          obtain ⟨c0, c1, c2⟩ := F.out _ K4.out
          go_wp2_with fail
          refine (refdrop_any HL4.out.any o.x (by omega)).mono ?_
          rintro e w5 ⟨u5, rfl, k5, o5⟩
          have hl5 := o5.rwP (d := it0) (P := fun i => (P i ∧ i < w3.heap.size) ∨ w4.heap.size ≤ i) fun i hi => .inr hi
          clear o5
          have hm : play1 l o = dropL l o.x := by unfold play1; rw [HO.out]; exact if_pos rfl
          have hmem : decide (o.x ∈ dropL l o.x) = false := decide_eq_false fun h => (mem_dropL.1 h).2 rfl
          have hml := play1_len l o
          rw [hm] at hml
          generalize dropL l o.x = m at hl5 HS4 hm hmem hml
          have HM := hid hm
          have HMEM := hid hmem
          clear hm hmem
          have K5 := hid (K4.out.trans k5)
          have HS5 := hid (HS4.out.kp0 k5)
          clear k5 c0 c1 c2 HS4 HL4 HL3 HS3
          have HL5 := hid hl5
          obtain ⟨L5, lc5, rfl, _, _, hlr⟩ := hl5
          clear hlr
          go_wp2_with fail
          refine region_all (fun w' => Pz w1 w5 w1.heap.size (fun i => (S i ∨ w3.heap.size ≤ i) ∧ i < w4.heap.size) m w') (by kernel_rfl) (by kernel_rfl) ((⟨K5.out, Kp.refl No _, HS5.out⟩ : Pz w1 w5 w1.heap.size (fun i => (S i ∨ w3.heap.size ≤ i) ∧ i < w4.heap.size) m w5).kp0 (Kp.refl No _).drew) ?_
          repeat ((first | ((with_reducible refine cl_val (v := ?_) ?_ ?_ ?_); rotate_left; (focus (go_simp; done)); (focus (intro w' hw; obtain ⟨c0, c1, c2⟩ := F.out w' hw.kw; go_simp; (try with_reducible rfl); done))) | ((with_reducible refine cl_skip ?_ ?_); (focus (first | (go_simp; done) | exact unwanted rfl rfl)))); simp only [Act.put, List.setIfInBounds_toArray, List.set_cons_zero, List.set_cons_succ])
          refine cl_call (v := .int .i64 (m.length : Int)) rfl (fun w' hw => by go_simp) (fun w' hw => (len_is hw.shf rfl).mono fun e w'' h => ⟨h.1, h.2 ▸ hw⟩) ?_
          simp only [Act.put, List.setIfInBounds_toArray, List.set_cons_zero, List.set_cons_succ]
          repeat ((first | ((with_reducible refine cl_val (v := ?_) ?_ ?_ ?_); rotate_left; (focus (go_simp; done)); (focus (intro w' hw; obtain ⟨c0, c1, c2⟩ := F.out w' hw.kw; go_simp; (try with_reducible rfl); done))) | ((with_reducible refine cl_skip ?_ ?_); (focus (first | (go_simp; done) | exact unwanted rfl rfl)))); simp only [Act.put, List.setIfInBounds_toArray, List.set_cons_zero, List.set_cons_succ])
          refine cl_call (v := .bool false) rfl (fun w' hw => by go_simp) (fun w' hw => (has_is hw.shf o.x HMEM.out).mono fun e w'' h => ⟨h.1, hw.kp0 h.2⟩) ?_
          simp only [Act.put, List.setIfInBounds_toArray, List.set_cons_zero, List.set_cons_succ]
          repeat ((first | ((with_reducible refine cl_val (v := ?_) ?_ ?_ ?_); rotate_left; (focus (go_simp; done)); (focus (intro w' hw; obtain ⟨c0, c1, c2⟩ := F.out w' hw.kw; go_simp; (try with_reducible rfl); done))) | ((with_reducible refine cl_skip ?_ ?_); (focus (first | (go_simp; done) | exact unwanted rfl rfl)))); simp only [Act.put, List.setIfInBounds_toArray, List.set_cons_zero, List.set_cons_succ])
          refine cl_nil fun w' hw => ?_
          have Z6 := hid hw
          clear hw
          have Z7 : Hid (PI w1 w1.heap.size (.slice L5 m.length lc5) (play (ops.take (k + 1))) _) := hid ⟨_, _, Z6.out.kw, by rw [HT.out, play_snoc, HPL.out, HM.out]; exact Z6.out.shf, by rw [HT.out, play_snoc, HPL.out, HM.out]; exact HL5.out.kp0 Z6.out.k3, fun i h1 h2 => by
            rcases h2 with h2 | h2
            · rcases h1.1 with h1 | h1
              · exact hSP i h1 h2.1
              · omega
            · omega, fun i h1 => by
            have := hw3.out
            rcases h1.1 with h1 | h1
            · exact hS1 i h1
            · omega⟩
          clear Z6 HS5 HL5
          go_wp2_with fail
          go_roundw
          case rel => exact ⟨k + 1, by omega, by go_num, Z7⟩
          case measure => simp [intOf]; omega
        | false =>
          have HO := hid ho
          have F := hid (show ∀ w', Kp No w1 w' → w'.cell? ⟨ob, oo + k * 3, none⟩ = some (.int .i64 o.x.key) ∧ w'.cell? ⟨ob, oo + k * 3 + 1, none⟩ = some (.int .i64 o.x.id) ∧ w'.cell? ⟨ob, oo + k * 3 + 2, none⟩ = some (.bool false) from fun w' hw => by rw [← HO.out]; exact F.out w' hw)
          clear ho
          obtain ⟨c0, c1, c2⟩ := F.out _ K3.out
          go_wp2_with fail
          refine (Put_any HS3.out (by omega) o.x).mono ?_
          rintro e w4 ⟨rfl, k4, h4⟩
          rw [HQ.out]
          have K4 := hid (K3.out.step k4 fun i hi h => absurd (hS1 i h) (by omega))
          have h4 : Shf w4 w1.heap.size (fun i => (S i ∨ w3.heap.size ≤ i) ∧ i < w4.heap.size) (putL l o.x) := h4.mono fun i hi h => ⟨h, hi⟩
          have HS4 := hid h4
          have HL4 := hid (HL3.out.kp k4 fun i _ hp hs => hSP i hs hp.1)
          have hw4 := hid k4.size
          clear h4 k4
          obtain ⟨c0, c1, c2⟩ := F.out _ K4.out
          go_wp2_with fail
          refine (refput_any hSo.out HL4.out o.x (by omega)).mono ?_
          rintro e w5 ⟨u5, rfl, k5, hl5⟩
          have hm : play1 l o = putL l o.x := by unfold play1; rw [HO.out]; rfl
          have hmem : decide (o.x ∈ putL l o.x) = true := decide_eq_true (mem_putL.2 (.inl rfl))
          have hml := play1_len l o
          rw [hm] at hml
          generalize putL l o.x = m at hl5 HS4 hm hmem hml
          have HM := hid hm
          have HMEM := hid hmem
          clear hm hmem
          have K5 := hid (K4.out.trans k5)
          have HS5 := hid (HS4.out.kp0 k5)
          clear k5 c0 c1 c2 HS4 HL4 HL3 HS3
          have HL5 := hid hl5
          obtain ⟨L5, lc5, rfl, _, _, hlr⟩ := hl5
          clear hlr
          go_wp2_with fail
          refine region_all (fun w' => Pz w1 w5 w1.heap.size (fun i => (S i ∨ w3.heap.size ≤ i) ∧ i < w4.heap.size) m w') (by kernel_rfl) (by kernel_rfl) ((⟨K5.out, Kp.refl No _, HS5.out⟩ : Pz w1 w5 w1.heap.size (fun i => (S i ∨ w3.heap.size ≤ i) ∧ i < w4.heap.size) m w5).kp0 (Kp.refl No _).drew) ?_
          repeat ((first | ((with_reducible refine cl_val (v := ?_) ?_ ?_ ?_); rotate_left; (focus (go_simp; done)); (focus (intro w' hw; obtain ⟨c0, c1, c2⟩ := F.out w' hw.kw; go_simp; (try with_reducible rfl); done))) | ((with_reducible refine cl_skip ?_ ?_); (focus (first | (go_simp; done) | exact unwanted rfl rfl)))); simp only [Act.put, List.setIfInBounds_toArray, List.set_cons_zero, List.set_cons_succ])
          refine cl_call (v := .int .i64 (m.length : Int)) rfl (fun w' hw => by go_simp) (fun w' hw => (len_is hw.shf rfl).mono fun e w'' h => ⟨h.1, h.2 ▸ hw⟩) ?_
          simp only [Act.put, List.setIfInBounds_toArray, List.set_cons_zero, List.set_cons_succ]
          repeat ((first | ((with_reducible refine cl_val (v := ?_) ?_ ?_ ?_); rotate_left; (focus (go_simp; done)); (focus (intro w' hw; obtain ⟨c0, c1, c2⟩ := F.out w' hw.kw; go_simp; (try with_reducible rfl); done))) | ((with_reducible refine cl_skip ?_ ?_); (focus (first | (go_simp; done) | exact unwanted rfl rfl)))); simp only [Act.put, List.setIfInBounds_toArray, List.set_cons_zero, List.set_cons_succ])
          refine cl_call (v := .bool true) rfl (fun w' hw => by go_simp) (fun w' hw => (has_is hw.shf o.x HMEM.out).mono fun e w'' h => ⟨h.1, hw.kp0 h.2⟩) ?_
          simp only [Act.put, List.setIfInBounds_toArray, List.set_cons_zero, List.set_cons_succ]
          repeat ((first | ((with_reducible refine cl_val (v := ?_) ?_ ?_ ?_); rotate_left; (focus (go_simp; done)); (focus (intro w' hw; obtain ⟨c0, c1, c2⟩ := F.out w' hw.kw; go_simp; (try with_reducible rfl); done))) | ((with_reducible refine cl_skip ?_ ?_); (focus (first | (go_simp; done) | exact unwanted rfl rfl)))); simp only [Act.put, List.setIfInBounds_toArray, List.set_cons_zero, List.set_cons_succ])
          refine cl_nil fun w' hw => ?_
          have Z6 := hid hw
          clear hw
          have Z7 : Hid (PI w1 w1.heap.size (.slice L5 m.length lc5) (play (ops.take (k + 1))) _) := hid ⟨_, _, Z6.out.kw, by rw [HT.out, play_snoc, HPL.out, HM.out]; exact Z6.out.shf, by rw [HT.out, play_snoc, HPL.out, HM.out]; exact HL5.out.kp0 Z6.out.k3, fun i h1 h2 => by
            rcases h2 with h2 | h2
            · rcases h1.1 with h1 | h1
              · exact hSP i h1 h2.1
              · omega
            · omega, fun i h1 => by
            have := hw3.out
            rcases h1.1 with h1 | h1
            · exact hS1 i h1
            · omega⟩
          clear Z6 HS5 HL5
          go_wp2_with fail
          go_roundw
          case rel => exact ⟨k + 1, by omega, by go_num, Z7⟩
          case measure => simp [intOf]; omega
      · have hk2 : k = ops.length := by omega
        subst hk2
        rw [List.take_length] at HS HL hlen
        clear hSo
        generalize play ops = l at HS HL hlen
        have HLh := hid HL
        obtain ⟨L0, lc0, rfl, hlc, hlm, hlr⟩ := HL
        clear hlr
        simp only [maxLen] at hlm
        go_wp2_with fail
        refine (told_any HS.out (by omega)).mono ?_
        rintro e w3 ⟨u3, rfl, k3, o3⟩
        have K3 := hid (K.out.trans k3)
        have HS3 := hid (HS.out.kp0 k3)
        have HL3 := hid (HLh.out.any.kp0 k3)
        obtain ⟨A3, c3, rfl⟩ := o3.formN rfl
        have O3 := hid (o3.rw (d := it0))
        clear k3 o3 K HS HLh
        obtain ⟨y, q, at1, at2⟩ := at_both l rank
        have AT1 := hid at1
        have AT2 := hid at2
        clear at1 at2
        go_wp2_with fail
        refine (AT1.out _ _ _ HS3.out).mono ?_
        rintro e w4 ⟨rfl, k4⟩
        have z4 : Kp No w3 (w4.alloc (.cells #[.int .i64 y.key, .int .i64 y.id] 24)) := k4.alloc _
        have y4 := Blk.new w4 24 #[.int .i64 y.key, .int .i64 y.id]
        go_wp2_with fail
        generalize w4.alloc (.cells #[.int .i64 y.key, .int .i64 y.id] 24) = w5 at z4 y4 ⊢
        have Z4 := hid z4
        have Y4 := hid y4
        clear z4 y4 k4
        refine (AT2.out _ _ (HL3.out.kp0 Z4.out)).mono ?_
        rintro e w6 ⟨rfl, k6⟩
        have z6 : Kp No w3 (w6.alloc (.cells #[.int .i64 y.key, .int .i64 y.id] 24)) := (Z4.out.trans k6).alloc _
        have y6 := Blk.new w6 24 #[.int .i64 y.key, .int .i64 y.id]
        have y5 := (Y4.out.kp0 k6).kp0 ((Kp.refl No w6).alloc (.cells #[.int .i64 y.key, .int .i64 y.id] 24))
        go_wp2_with fail
        generalize w6.alloc (.cells #[.int .i64 y.key, .int .i64 y.id] 24) = w7 at z6 y6 y5 ⊢
        have Z6 := hid z6
        have Y6 := hid y6
        have Y5 := hid y5
        clear z6 y6 y5 k6 Z4 Y4
        have F : Hid (∀ w', Pe w1 w3 w7 w1.heap.size S l w' → w'.cell? ⟨w4.heap.size, 0, none⟩ = some (.int .i64 y.key) ∧ w'.cell? ⟨w4.heap.size, 1, none⟩ = some (.int .i64 y.id) ∧ w'.cell? ⟨w6.heap.size, 0, none⟩ = some (.int .i64 y.key) ∧ w'.cell? ⟨w6.heap.size, 1, none⟩ = some (.int .i64 y.id) ∧ w'.cell? ⟨w.heap.size, 0, none⟩ = some (.int .i64 x.key) ∧ w'.cell? ⟨w.heap.size, 1, none⟩ = some (.int .i64 x.id)) := hid fun w' hw => by
          have a0 := (Y5.out.kp0 hw.k7).cell 0
          have a1 := (Y5.out.kp0 hw.k7).cell 1
          have b0 := (Y6.out.kp0 hw.k7).cell 0
          have b1 := (Y6.out.kp0 hw.k7).cell 1
          have d0 := (B1.out.kp0 hw.kw).cell 0
          have d1 := (B1.out.kp0 hw.kw).cell 1
          exact ⟨by simpa using a0, by simpa using a1, by simpa using b0, by simpa using b1, by simpa using d0, by simpa using d1⟩
        have P7 : Hid (Pe w1 w3 w7 w1.heap.size S l w7) := hid ⟨K3.out.trans Z6.out, Z6.out, Kp.refl No _, HS3.out.kp0 Z6.out⟩
        obtain ⟨r, hr⟩ : ∃ r, rnk l x = r := ⟨_, rfl⟩
        have HR := hid hr
        obtain ⟨d, hd⟩ : ∃ d, decide (x ∈ l) = d := ⟨_, rfl⟩
        have HD := hid hd
        clear hr hd
        refine region_class (fun w' => Pe w1 w3 w7 w1.heap.size S l w') 37 rfl (by kernel_rfl) (by kernel_rfl) (by kernel_rfl) (P7.out.kp0 (Kp.refl No _).drew) ?_
        simp only [List.take_succ_cons, List.take_zero]
        repeat ((first | ((with_reducible refine cl_val (v := ?_) ?_ ?_ ?_); rotate_left; (focus (go_simp; done)); (focus (intro w' hw; obtain ⟨a0, a1, b0, b1, d0, d1⟩ := F.out w' hw; go_simp; (try with_reducible rfl); done))) | ((with_reducible refine cl_skip ?_ ?_); (focus (first | (go_simp; done) | exact unwanted rfl rfl)))); simp only [Act.put, List.setIfInBounds_toArray, List.set_cons_zero, List.set_cons_succ])
        refine cl_call (v := .bool true) rfl (fun w' hw => by go_simp) (fun w' hw => (same_any (O3.out.kp0 hw.k3) (HL3.out.kp0 hw.k3) (by omega)).mono fun e w'' h => ⟨h.1, hw.kp0 h.2⟩) ?_
        simp only [Act.put, List.setIfInBounds_toArray, List.set_cons_zero, List.set_cons_succ]
        repeat ((first | ((with_reducible refine cl_val (v := ?_) ?_ ?_ ?_); rotate_left; (focus (go_simp; done)); (focus (intro w' hw; obtain ⟨a0, a1, b0, b1, d0, d1⟩ := F.out w' hw; go_simp; (try with_reducible rfl); done))) | ((with_reducible refine cl_skip ?_ ?_); (focus (first | (go_simp; done) | exact unwanted rfl rfl)))); simp only [Act.put, List.setIfInBounds_toArray, List.set_cons_zero, List.set_cons_succ])
        refine cl_call (v := .int .i64 (r : Int)) rfl (fun w' hw => by go_simp) (fun w' hw => (rank_is hw.shf x r HR.out).mono fun e w'' h => ⟨h.1, hw.kp0 h.2⟩) ?_
        simp only [Act.put, List.setIfInBounds_toArray, List.set_cons_zero, List.set_cons_succ]
        repeat ((first | ((with_reducible refine cl_val (v := ?_) ?_ ?_ ?_); rotate_left; (focus (go_simp; done)); (focus (intro w' hw; obtain ⟨a0, a1, b0, b1, d0, d1⟩ := F.out w' hw; go_simp; (try with_reducible rfl); done))) | ((with_reducible refine cl_skip ?_ ?_); (focus (first | (go_simp; done) | exact unwanted rfl rfl)))); simp only [Act.put, List.setIfInBounds_toArray, List.set_cons_zero, List.set_cons_succ])
        refine cl_call (v := .int .i64 (r : Int)) rfl (fun w' hw => by go_simp) (fun w' hw => (refrank_any (HL3.out.kp0 hw.k3) x (by omega)).mono fun e w'' h => ⟨by rw [h.1, HR.out], hw.kp0 h.2⟩) ?_
        simp only [Act.put, List.setIfInBounds_toArray, List.set_cons_zero, List.set_cons_succ]
        repeat ((first | ((with_reducible refine cl_val (v := ?_) ?_ ?_ ?_); rotate_left; (focus (go_simp; done)); (focus (intro w' hw; obtain ⟨a0, a1, b0, b1, d0, d1⟩ := F.out w' hw; go_simp; (try with_reducible rfl); done))) | ((with_reducible refine cl_skip ?_ ?_); (focus (first | (go_simp; done) | exact unwanted rfl rfl)))); simp only [Act.put, List.setIfInBounds_toArray, List.set_cons_zero, List.set_cons_succ])
        refine cl_call (v := .bool d) rfl (fun w' hw => by go_simp) (fun w' hw => (has_is hw.shf x HD.out).mono fun e w'' h => ⟨h.1, hw.kp0 h.2⟩) ?_
        simp only [Act.put, List.setIfInBounds_toArray, List.set_cons_zero, List.set_cons_succ]
        repeat ((first | ((with_reducible refine cl_val (v := ?_) ?_ ?_ ?_); rotate_left; (focus (go_simp; done)); (focus (intro w' hw; obtain ⟨a0, a1, b0, b1, d0, d1⟩ := F.out w' hw; go_simp; (try with_reducible rfl); done))) | ((with_reducible refine cl_skip ?_ ?_); (focus (first | (go_simp; done) | exact unwanted rfl rfl)))); simp only [Act.put, List.setIfInBounds_toArray, List.set_cons_zero, List.set_cons_succ])
        refine cl_call (v := .bool d) rfl (fun w' hw => by go_simp) (fun w' hw => (refhas_any (HL3.out.kp0 hw.k3) x (by omega)).mono fun e w'' h => ⟨by rw [h.1, HD.out], hw.kp0 h.2⟩) ?_
        simp only [Act.put, List.setIfInBounds_toArray, List.set_cons_zero, List.set_cons_succ]
        repeat ((first | ((with_reducible refine cl_val (v := ?_) ?_ ?_ ?_); rotate_left; (focus (go_simp; done)); (focus (intro w' hw; obtain ⟨a0, a1, b0, b1, d0, d1⟩ := F.out w' hw; go_simp; (try with_reducible rfl); done))) | ((with_reducible refine cl_skip ?_ ?_); (focus (first | (go_simp; done) | exact unwanted rfl rfl)))); simp only [Act.put, List.setIfInBounds_toArray, List.set_cons_zero, List.set_cons_succ])
        refine cl_nil fun w' hw => ?_
        have KF := hid (K1.out.trans hw.kw)
        clear hw
        go_wp2_with fail
        go_ret
        exact ⟨by first | rfl | simp, KF.out⟩
end Go.Proofs.Ytlkbjfjjfifbmaa

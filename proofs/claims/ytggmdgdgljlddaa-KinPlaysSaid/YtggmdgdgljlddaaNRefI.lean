/-
  Contract of the document's Move.
-/
import Derived.Test.YtggmdgdgljlddaaNRefH
namespace Go.Proofs.Ytggmdgdgljlddaa
open Go.RowKit

section
variable {T : Tre} {D : Int → Nat} {w w' : World} {S P : Nat → Prop} {base r : Nat} {v : Value} {L : List (Int × Int)} {id p : Int}
set_option maxHeartbeats 2000000 in
set_option maxRecDepth 100000 in
theorem rmove_any (h : RS w base r T v L) (W : WT T D) (hll : L.length ≤ 1000000) (hb : base ≤ w.heap.size) (hii : I64 id) (hpp : I64 p) : Calls Try.prog 9 #[.pointer (some ⟨r, 0, none⟩), .int .i64 id, .int .i64 p] w (RPost base r w (movE T id p) (if movE T id p = 0 then movT T id p else T)) := by
  have HR := hid h
  have HW := hid W
  by_cases h0 : id = 0
  · have he : movE T id p = 8 := by unfold movE; rw [if_pos (.inl ((W.par_iff id).2 (.inr h0)))]
    rw [he, if_neg (by decide)]
    have g0 : (id == 0) = true := by simp [h0]
    clear W h he h0
    go_enter Try.func9, Try.ntmps9
    go_wp2_with fail
    go_ret
    exact RPost.no HR.out (Kp.refl _ _) 8
  · have g0 : (id == 0) = false := by simp [h0]
    cases hT : T id with
    | none =>
      have he : movE T id p = 8 := by unfold movE; rw [if_pos (.inl ((W.par_iff id).2 (.inl hT)))]
      rw [he, if_neg (by decide)]
      clear W h he h0
      go_enter Try.func9, Try.ntmps9
      go_wp2_with (first
        | (go_at_call 14
           refine (rhas_any HR.out.rt HR.out.lt HW.out id).mono ?_
           rintro e w2 ⟨rfl, rfl⟩
           rw [hT]
           simp only [Option.isSome_none]))
      go_ret
      exact RPost.no HR.out (Kp.refl _ _) 8
    | some q =>
      have hpar : ¬ par T id = -1 := fun e => by
        rcases (W.par_iff id).1 e with e | e
        · rw [hT] at e; cases e
        · exact h0 e
      cases hTp : T p with
      | none =>
        have he : movE T id p = 8 := by unfold movE; rw [if_pos (.inr (by rw [hTp]; rfl))]
        rw [he, if_neg (by decide)]
        clear W h he h0 hpar
        go_enter Try.func9, Try.ntmps9
        go_wp2_with (first
          | (go_at_call 14
             with_reducible refine (rhas_any HR.out.rt HR.out.lt HW.out id).mono ?_
             rintro e w2 ⟨rfl, rfl⟩
             rw [hT]
             simp only [Option.isSome_some])
          | (go_at_call 14
             with_reducible refine (rhas_any HR.out.rt HR.out.lt HW.out p).mono ?_
             rintro e w3 ⟨rfl, rfl⟩
             rw [hTp]
             simp only [Option.isSome_none]))
        go_ret
        exact RPost.no HR.out (Kp.refl _ _) 8
      | some q2 =>
        have hno : ¬ (par T id = -1 ∨ (T p).isSome = false) := by
          rintro (e | e)
          · exact hpar e
          · rw [hTp] at e
            cases e
        have hpl := path_le W p
        obtain ⟨ps, hps⟩ : ∃ ps, path T p = ps := ⟨_, rfl⟩
        obtain ⟨n, hn⟩ : ∃ n, ps.length = n := ⟨_, rfl⟩
        obtain ⟨tl1, tl2, _, _⟩ := tall_is W hT
        obtain ⟨t, ht⟩ : ∃ t, tall T id = t := ⟨_, rfl⟩
        rw [hps, hn] at hpl
        rw [ht] at tl1 tl2
        have HPS := hid hps
        have HN := hid hn
        have HTT := hid ht
        have H0 := hid h0
        have HMV := hid (show movE T id p = if id ∈ ps then 11 else if (n : Int) + 1 + t > 16 then 10 else 0 by unfold movE; rw [if_neg hno, hps, hn, ht])
        have hw1 := wrapI (x := (n : Int) + 1) (by unfold I64; omega)
        have hw2 := wrapI (x := (n : Int) + 1 + t) (by unfold I64; omega)
        have HTN := hid (fun (e : id ∉ ps) => show tall T id = t ∧ id ∉ path T p from ⟨ht, by rw [hps]; exact e⟩)
        obtain ⟨cd, hcd⟩ : ∃ cd, movE T id p = cd := ⟨_, rfl⟩
        obtain ⟨T', hT'⟩ : ∃ T', (if movE T id p = 0 then movT T id p else T) = T' := ⟨_, rfl⟩
        rw [hT', hcd]
        rw [hcd] at HMV hT'
        have HT' := hid hT'
        clear W h h0 hpar hno hps hn ht hcd hT'
        go_enter Try.func9, Try.ntmps9
        go_wp2_with (first
          | (go_at_call 14
             with_reducible refine (rhas_any HR.out.rt HR.out.lt HW.out id).mono ?_
             rintro e w2 ⟨rfl, rfl⟩
             rw [hT]
             simp only [Option.isSome_some])
          | (go_at_call 14
             with_reducible refine (rhas_any HR.out.rt HR.out.lt HW.out p).mono ?_
             rintro e w3 ⟨rfl, rfl⟩
             rw [hTp]
             simp only [Option.isSome_some])
          | (go_at_call 22
             refine (rpath_any HR.out.rt HR.out.lt HW.out hpp).mono ?_
             rintro e w4 ⟨v4, rfl, o4, k4⟩
             rw [HPS.out] at o4
             obtain ⟨A4, c4, rfl⟩ := o4.formN HN.out
             have O4 := hid (Ow.rw (d := (0 : Int)) o4)
             have K4 := hid k4
             have R4 := hid (HR.out.kp0 k4)
             clear o4 k4))
        go_loopw [8] (fun i wr => ∃ k : Nat, k ≤ n ∧ i = .int .i64 (k : Int) ∧ wr = w4 ∧ Hid (id ∉ ps.take k)) (fun i _ => n - (intOf i).toNat)
        case atStart => exact ⟨0, Nat.zero_le _, rfl, rfl, hid (by simp)⟩
        case round =>
          obtain ⟨k, hk, rfl, rfl, HX⟩ := hrel
          by_cases hkn : k < n
          · have g1 : (k : Int) < (n : Int) := by omega
            have hkl : k < ps.length := by rw [HN.out]; exact hkn
            obtain ⟨b, o, rfl⟩ := O4.out.there (by omega)
            have hc1 := O4.out.cell (i := 0) (Kp.refl No wr) hkl (by omega) rfl
            simp only [zf, Nat.mul_one, Nat.add_zero] at hc1
            have HY := hid (take_s ps hkl 0)
            have HM := hid (show ps.getD k 0 ∈ ps by simp [List.getD, hkl])
            obtain ⟨y, hy⟩ : ∃ y, ps.getD k 0 = y := ⟨_, rfl⟩
            rw [hy] at hc1 HY HM
            have hwk := wrapI (x := (k : Int) + 1) (by unfold I64; omega)
            clear hy hkl
            by_cases e : y = id
            · have e1 : (y == id) = true := by simp [e]
              have hm := HM.out
              rw [e] at hm
              have hcd : cd = 11 := by rw [HMV.out, if_pos hm]
              have HE := hid hcd
              clear e hm hcd
              go_wp2_with fail
              go_ret
              have h2 := HT'.out
              rw [HE.out, if_neg (by decide)] at h2
              rw [HE.out, ← h2]
              exact RPost.no HR.out K4.out 11
            · have e1 : (y == id) = false := by simp [e]
              have HE := hid e
              clear e
              go_wp2_with fail
              go_roundw
              case rel => exact ⟨k + 1, by omega, by go_num, by first | rfl | trivial, hid (by
                rw [HY.out, List.mem_append]
                intro hm
                rcases hm with hm | hm
                · exact HX.out hm
                · exact HE.out (List.mem_singleton.1 hm).symm)⟩
              case measure => simp [intOf]; omega
          · have hkk : k = n := by omega
            subst hkk
            have hng : ¬ (k : Int) < (k : Int) := by omega
            have hx := HX.out
            rw [List.take_of_length_le (by rw [HN.out]; omega)] at hx
            obtain ⟨htn, hpn⟩ := HTN.out hx
            have HNP := hid hpn
            have HTA := hid htn
            have hmv := HMV.out
            rw [if_neg hx] at hmv
            by_cases hd : (k : Int) + 1 + t > 16
            · rw [if_pos hd] at hmv
              have HE := hid hmv
              have hg3 : (16 : Int) < (k : Int) + 1 + t := hd
              clear hx htn hpn hmv hd
              go_wp2_with (first
                | (go_at_call 18
                   refine (rtall_rec R4.out.lt HW.out 17 id wr hii (.inl (by omega)) R4.out.rt).mono ?_
                   rintro e w5 ⟨rfl, k5⟩
                   rw [HTA.out]
                   have K5 := hid (K4.out.trans k5)
                   clear k5))
              go_ret
              have h2 := HT'.out
              rw [HE.out, if_neg (by decide)] at h2
              rw [HE.out, ← h2]
              exact RPost.no HR.out K5.out 10
            · rw [if_neg hd] at hmv
              have HE := hid hmv
              have hg3 : ¬ (16 : Int) < (k : Int) + 1 + t := hd
              clear hx htn hpn hmv hd
              go_wp2_with (first
                | (go_at_call 18
                   refine (rtall_rec R4.out.lt HW.out 17 id wr hii (.inl (by omega)) R4.out.rt).mono ?_
                   rintro e w5 ⟨rfl, k5⟩
                   rw [HTA.out]
                   have K5 := hid (K4.out.trans k5)
                   have R5 := hid (R4.out.kp0 k5)
                   clear k5)
                | (go_at_call 26
                   refine (rwithout_any R5.out.rt hll id).mono ?_
                   rintro e w6 ⟨v6, rfl, o6, k6⟩
                   have O6 := hid o6
                   have K6 := hid (K5.out.trans k6)
                   have R6 := hid (R5.out.kp0 k6)
                   have HL6 := hid (show (wo L id).length ≤ 1000000 from Nat.le_trans (List.length_filter_le _ _) hll)
                   have kz := (Kp.refl No w6).alloc (.cells #[.int .i64 id, .int .i64 p] 48)
                   have OZ := hid (o6.kp0 kz)
                   have RZ := hid (R6.out.kp0 kz)
                   have KZ := hid (K6.out.trans kz)
                   have ZZ := hid (show w5.heap.size ≤ (w6.alloc (.cells #[.int .i64 id, .int .i64 p] 48)).heap.size from Nat.le_trans k6.size kz.size)
                   have B0 := Blk.new w6 48 #[.int .i64 id, .int .i64 p]
                   have HZ := hid (And.intro (B0.cell 0) (B0.cell 1))
                   clear o6 k6 kz B0)
                | (at_builtin
                   refine wp_app1 usQ pc_one rfl (.tmp 49) (.tmp 53) rfl (base := w5.heap.size) (xs := wo L id) (y := (id, p)) (by exact OZ.out) rfl (by
                     intro i hi
                     match i, hi with
                     | 0, _ => exact HZ.out.1
                     | 1, _ => exact HZ.out.2) (by have := HL6.out; omega) (by have := HL6.out; simp only [maxLen]; omega) (by exact ZZ.out) ?_
                   intro v8 w8 o8 k8 p8
                   have kA := (Kp.refl (fun i => v6.ownBlock = some i) _).grown k8 fun k hk => .inl hk
                   have hrz : ∀ i, v6.ownBlock = some i → i ≠ r := fun i hi e => by
                     have h1 := (OZ.out.blk hi).1
                     have h2 := R5.out.hd.lt
                     omega
                   have B8 := RZ.out.hd.kp kA fun e => hrz r e rfl
                   have f8 := B8.frozen 0
                   have c8 := B8.cell 0
                   simp only [List.getElem?_toArray, List.getElem?_cons_zero] at c8
                   obtain ⟨A8, q8, hv8⟩ := o8.formN (m := (wo L id).length + 1) (by simp)
                   subst hv8
                   have O8 := hid o8
                   have HB8 := hid B8
                   have K8 := hid (KZ.out.step kA fun i hi e => by
                     have h1 := (OZ.out.blk e).1
                     have h2 := K5.out.size
                     omega)
                   have NE8 := hid (show ∀ i, (Value.slice A8 ((wo L id).length + 1) q8).ownBlock = some i → i ≠ r from fun i hi e => by
                     have h1 := (o8.blk hi).1
                     have h2 := R5.out.hd.lt
                     omega)
                   clear o8 k8 p8 kA B8 hrz))
              go_ret
              have h2 := HT'.out
              rw [HE.out, if_pos rfl] at h2
              rw [HE.out, ← h2]
              have kS := Kp.set1 r 0 w8 (.slice A8 ((wo L id).length + 1) q8)
              have hz5 := K5.out.size
              exact ⟨rfl, ⟨_, _, (O8.out.lower (by omega)).kpx kS fun i hi e => NE8.out i hi e, HB8.out.put 0 _, HR.out.lt.move HW.out hT H0.out hTp HNP.out, fun e => NE8.out r e rfl⟩, K8.out.all.trans kS⟩
end
end Go.Proofs.Ytggmdgdgljlddaa

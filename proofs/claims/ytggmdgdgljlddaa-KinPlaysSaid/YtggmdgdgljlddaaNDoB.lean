/-
  Contracts of Drop, Move.
-/
import Derived.Test.YtggmdgdgljlddaaNDo
namespace Go.Proofs.Ytggmdgdgljlddaa
open Go.RowKit

section
variable {T : Tre} {D : Int → Nat} {w w' : World} {S P : Nat → Prop} {g m cnt : Nat} {x id p : Int}
set_option maxHeartbeats 1000000 in
set_option maxRecDepth 100000 in
theorem drop_any (W : WT T D) (h : Kn w S g m T cnt) (hc : Cn T cnt) (hii : I64 id) (hcl : cnt ≤ 1000) :
    Calls Try.prog 25 #[.pointer (some ⟨g, 0, none⟩), .int .i64 id] w (DoPost S g m w cnt (dropE T id) (if dropE T id = 0 then cutT T id else T)) := by
  have HK := hid h
  have HW := hid W
  have HC := hid hc
  by_cases hpar : par T id = -1
  · have he : dropE T id = 8 := by unfold dropE; rw [if_pos hpar]
    rw [he, if_neg (by decide)]
    have hg1 : (par T id == -1) = true := by simp [hpar]
    clear W h hc he
    go_enter Try.func25, Try.ntmps25
    go_wp2_with (first
      | (go_at_call 15
         refine (parent_any HK.out hii).mono ?_
         rintro e w1 ⟨rfl, k1⟩
         have K1 := hid k1
         clear k1))
    go_ret
    exact DoPost.no HK.out HC.out K1.out 8
  · have hg1 : (par T id == -1) = false := by simp [hpar]
    cases hTi : T id with
    | none => exact absurd (par_none hTi) hpar
    | some q =>
      have h0 : id ≠ 0 := fun e => hpar (by rw [e]; exact W.par0)
      obtain ⟨r, hr, hmem, hne, _⟩ := cut_at W hTi h0
      obtain ⟨pp, hpp⟩ : ∃ pp, par T id = pp := ⟨_, rfl⟩
      have hlow := W.low hr
      have HR := hid (And.intro hr (And.intro hmem hne))
      have hq1 := par_some hTi
      have hppi : I64 q.1 := by unfold I64; omega
      obtain ⟨n, hn⟩ : ∃ n, q.2.length = n := ⟨_, rfl⟩
      have hql := kids_len W id
      rw [kids_some hTi, hn] at hql
      have HN := hid hn
      by_cases hz : 0 < n
      · have he : dropE T id = 12 := by unfold dropE; rw [if_neg hpar, kids_some hTi, if_pos (by omega)]
        rw [he, if_neg (by decide)]
        have hg2 : (0 : Int) < (n : Int) := by omega
        clear W h hc he hr hmem hne hn
        go_enter Try.func25, Try.ntmps25
        go_wp2_with (first
          | (go_at_call 15
             refine (parent_any HK.out hii).mono ?_
             rintro e w1 ⟨rfl, k1⟩
             obtain ⟨f, hkf⟩ := HK.out.kp0 k1
             have cg := hkf.cell
             obtain ⟨a, hp1, hr1, hf1, hl1⟩ := hkf.look hii false
             obtain ⟨ap, ab, an, ac⟩ := a
             have ha1 := hr1.1
             rw [kids_some hTi, HN.out] at ha1
             simp only at ha1
             subst ha1
             unfold gev gsl at hl1
             simp only [Bool.false_eq_true, if_false] at hl1
             have K1 := hid k1
             clear k1 hkf hp1 hr1 hf1))
        go_ret
        exact DoPost.no HK.out HC.out K1.out 12
      · have hn0 : n = 0 := by omega
        subst hn0
        have he : dropE T id = 0 := by unfold dropE; rw [if_neg hpar, kids_some hTi, if_neg (by omega)]
        rw [he, if_pos rfl]
        clear W h hc he hr hmem hne hn
        go_enter Try.func25, Try.ntmps25
        go_wp2_with (first
          | (go_at_call 15
             refine (parent_any HK.out hii).mono ?_
             rintro e w1 ⟨rfl, k1⟩
             obtain ⟨f, hkf⟩ := HK.out.kp0 k1
             have cg := hkf.cell
             obtain ⟨a, hp1, hr1, hf1, hl1⟩ := hkf.look hii false
             obtain ⟨ap, ab, an, ac⟩ := a
             have ha1 := hr1.1
             rw [kids_some hTi, HN.out] at ha1
             simp only at ha1
             subst ha1
             unfold gev gsl at hl1
             simp only [Bool.false_eq_true, if_false] at hl1
             have K1 := hid k1
             clear k1 hkf hp1 hr1 hf1)
          | (go_at_call 32
             obtain ⟨f3, hk3⟩ := (HK.out.kp0 K1.out).narrow
             refine (cut_any hk3 hii hppi hTi rfl HR.out.1 HR.out.2.1 (HW.out.srt _ _ HR.out.1) (by have := kids_len HW.out q.1; rw [kids_some HR.out.1] at this; exact this) HR.out.2.2 (fun i hi => hi.2) (by omega) (HC.out.one hTi)).mono ?_
             rintro e w4 ⟨f', b', n', c', rfl, _, _, kf4, k4⟩
             have N4 := hid (Exists.intro (p := fun f => Kf w4 _ g m f (cutT T id) (cnt - 1)) f' kf4)
             have K4 := hid ((K1.out.mono (T := S) fun i _ h => h.elim).trans (k4.mono fun i _ h => h.1))
             unfold gsl
             clear hk3 k4 kf4))
        go_ret
        refine ⟨rfl, ⟨cnt - 1, HC.out.drop HW.out hTi h0, by omega, ?_⟩, K4.out⟩
        exact Kn.mono (S := fun i => S i ∧ i < w1.heap.size) N4.out fun i hi => hi.1
set_option maxHeartbeats 1000000 in
set_option maxRecDepth 100000 in
theorem move_any (W : WT T D) (h : Kn w S g m T cnt) (hc : Cn T cnt) (hS : ∀ i, w.heap.size ≤ i → S i) (hii : I64 id) (hp : I64 p) (hcl : cnt ≤ 1000) :
    Calls Try.prog 24 #[.pointer (some ⟨g, 0, none⟩), .int .i64 id, .int .i64 p] w (DoPost S g m w cnt (movE T id p) (if movE T id p = 0 then movT T id p else T)) := by
  have HK := hid h
  have HW := hid W
  have HC := hid hc
  have HS := hid hS
  by_cases hpar : par T id = -1
  · have he : movE T id p = 8 := by unfold movE; rw [if_pos (.inl hpar)]
    rw [he, if_neg (by decide)]
    have hg1 : (par T id == -1) = true := by simp [hpar]
    clear W h hc he hS
    go_enter Try.func24, Try.ntmps24
    go_wp2_with (first
      | (go_at_call 15
         refine (parent_any HK.out hii).mono ?_
         rintro e w1 ⟨rfl, k1⟩
         have K1 := hid k1
         clear k1))
    go_ret
    exact DoPost.no HK.out HC.out K1.out 8
  · have hg1 : (par T id == -1) = false := by simp [hpar]
    cases hTp : T p with
    | none =>
      have he : movE T id p = 8 := by unfold movE; rw [if_pos (.inr (by rw [hTp]; rfl))]
      rw [he, if_neg (by decide)]
      clear W h hc he hS
      go_enter Try.func24, Try.ntmps24
      go_wp2_with (first
        | (go_at_call 15
           refine (parent_any HK.out hii).mono ?_
           rintro e w1 ⟨rfl, k1⟩
           have K1 := hid k1
           clear k1)
        | (go_at_call 13
           refine (has_any (HK.out.kp0 K1.out) hp).mono ?_
           rintro e w2 ⟨rfl, k2⟩
           rw [hTp]
           simp only [Option.isSome_none]
           have K2 := hid (K1.out.trans k2)
           clear k2))
      go_ret
      exact DoPost.no HK.out HC.out K2.out 8
    | some q2 =>
      have hno : ¬ (par T id = -1 ∨ (T p).isSome = false) := by
        rintro (e | e)
        · exact hpar e
        · rw [hTp] at e
          cases e
      by_cases hin : id ∈ path T p
      · have he : movE T id p = 11 := by unfold movE; rw [if_neg hno, if_pos hin]
        rw [he, if_neg (by decide)]
        have hg2 : decide (id ∈ path T p) = true := by simp [hin]
        clear W h hc he hS hno
        go_enter Try.func24, Try.ntmps24
        go_wp2_with (first
          | (go_at_call 15
             refine (parent_any HK.out hii).mono ?_
             rintro e w1 ⟨rfl, k1⟩
             have K1 := hid k1
             clear k1)
          | (go_at_call 13
             refine (has_any (HK.out.kp0 K1.out) hp).mono ?_
             rintro e w2 ⟨rfl, k2⟩
             rw [hTp]
             simp only [Option.isSome_some]
             have K2 := hid (K1.out.trans k2)
             clear k2)
          | (go_at_call 21
             refine (path_any HW.out (HK.out.kp0 K2.out) hp).mono ?_
             rintro e w3 ⟨v3, rfl, o3, k3⟩
             have O3 := hid (Ow.rw (d := (0 : Int)) o3)
             have K3 := hid (K2.out.trans k3)
             clear o3 k3)
          | (go_at_call 31
             refine (contains_any O3.out id).mono ?_
             rintro e w4 ⟨rfl, rfl⟩))
        go_ret
        exact DoPost.no HK.out HC.out K3.out 11
      · have hg2 : decide (id ∈ path T p) = false := by simp [hin]
        have hpl := path_le W p
        obtain ⟨n, hn⟩ : ∃ n, (path T p).length = n := ⟨_, rfl⟩
        have HN := hid hn
        rw [hn] at hpl
        cases hTi : T id with
        | none => exact absurd (par_none hTi) hpar
        | some q =>
          have h0 : id ≠ 0 := fun e => hpar (by rw [e]; exact W.par0)
          obtain ⟨tl1, tl2, _, _⟩ := tall_is W hTi
          obtain ⟨t, ht⟩ : ∃ t, tall T id = t := ⟨_, rfl⟩
          have HT := hid ht
          rw [ht] at tl1 tl2
          have hw1 := wrapI (x := (n : Int) + 1) (by unfold I64; omega)
          have hw2 := wrapI (x := (n : Int) + 1 + t) (by unfold I64; omega)
          by_cases hd : (n : Int) + 1 + t > 16
          · have he : movE T id p = 10 := by unfold movE; rw [if_neg hno, if_neg hin, hn, ht, if_pos hd]
            rw [he, if_neg (by decide)]
            have hg3 : (16 : Int) < (n : Int) + 1 + t := hd
            clear W h hc he hS hno hn ht
            go_enter Try.func24, Try.ntmps24
            go_wp2_with (first
              | (go_at_call 15
                 refine (parent_any HK.out hii).mono ?_
                 rintro e w1 ⟨rfl, k1⟩
                 have K1 := hid k1
                 clear k1)
              | (go_at_call 13
                 refine (has_any (HK.out.kp0 K1.out) hp).mono ?_
                 rintro e w2 ⟨rfl, k2⟩
                 rw [hTp]
                 simp only [Option.isSome_some]
                 have K2 := hid (K1.out.trans k2)
                 clear k2)
              | (go_at_call 21
                 refine (path_any HW.out (HK.out.kp0 K2.out) hp).mono ?_
                 rintro e w3 ⟨v3, rfl, o3, k3⟩
                 have O3 := hid (Ow.rw (d := (0 : Int)) o3)
                 have K3 := hid (K2.out.trans k3)
                 clear o3 k3)
              | (go_at_call 31
                 refine (contains_any O3.out id).mono ?_
                 rintro e w4 ⟨rfl, rfl⟩)
              | (go_at_call 29
                 refine (deep_any HW.out (HK.out.kp0 K3.out) hp).mono ?_
                 rintro e w5 ⟨rfl, k5⟩
                 rw [HN.out]
                 have K5 := hid (K3.out.trans k5)
                 clear k5)
              | (go_at_call 17
                 refine (tall_any HW.out (HK.out.kp0 K5.out) hii).mono ?_
                 rintro e w6 ⟨rfl, k6⟩
                 rw [HT.out]
                 have K6 := hid (K5.out.trans k6)
                 clear k6))
            go_ret
            exact DoPost.no HK.out HC.out K6.out 10
          · have he : movE T id p = 0 := by unfold movE; rw [if_neg hno, if_neg hin, hn, ht, if_neg hd]
            rw [he, if_pos rfl]
            have hok := mov_ok W he
            have hg3 : ¬ (16 : Int) < (n : Int) + 1 + t := hd
            obtain ⟨r, hr, hmem, hne, hct⟩ := cut_at W hTi h0
            have hlow := W.low hr
            have hppi : I64 q.1 := by unfold I64; omega
            have hpi : p ≠ id := by
              rintro rfl
              exact hin (path_self W hTi h0)
            have HR := hid (And.intro hr (And.intro hmem hne))
            have HP2 := hid (show ∃ q3, cutT T id p = some q3 ∧ q3.2.Pairwise (· < ·) ∧ q3.2.length ≤ 1048577 by
              rw [hct, if_neg hpi]
              by_cases e : p = q.1
              · rw [if_pos e]
                refine ⟨_, rfl, del_srt (W.srt _ _ hr), ?_⟩
                have := del_len (W.srt _ _ hr) hmem
                have h3 := kids_len W q.1
                rw [kids_some hr] at h3
                simp only
                omega
              · rw [if_neg e]
                refine ⟨_, hTp, W.srt _ _ hTp, ?_⟩
                have h3 := kids_len W p
                rw [kids_some hTp] at h3
                exact h3)
            have HI := hid (show cutT T id id = none by rw [hct, if_neg (Ne.symm hne), if_pos rfl])
            clear W h hc he hS hno hn ht hr hmem hne hct hok
            go_enter Try.func24, Try.ntmps24
            go_wp2_with (first
              | (go_at_call 15
                 refine (parent_any HK.out hii).mono ?_
                 rintro e w1 ⟨rfl, k1⟩
                 have K1 := hid k1
                 clear k1)
              | (go_at_call 13
                 refine (has_any (HK.out.kp0 K1.out) hp).mono ?_
                 rintro e w2 ⟨rfl, k2⟩
                 rw [hTp]
                 simp only [Option.isSome_some]
                 have K2 := hid (K1.out.trans k2)
                 clear k2)
              | (go_at_call 21
                 refine (path_any HW.out (HK.out.kp0 K2.out) hp).mono ?_
                 rintro e w3 ⟨v3, rfl, o3, k3⟩
                 have O3 := hid (Ow.rw (d := (0 : Int)) o3)
                 have K3 := hid (K2.out.trans k3)
                 clear o3 k3)
              | (go_at_call 31
                 refine (contains_any O3.out id).mono ?_
                 rintro e w4 ⟨rfl, rfl⟩)
              | (go_at_call 29
                 refine (deep_any HW.out (HK.out.kp0 K3.out) hp).mono ?_
                 rintro e w5 ⟨rfl, k5⟩
                 rw [HN.out]
                 have K5 := hid (K3.out.trans k5)
                 clear k5)
              | (go_at_call 17
                 refine (tall_any HW.out (HK.out.kp0 K5.out) hii).mono ?_
                 rintro e w6 ⟨rfl, k6⟩
                 rw [HT.out]
                 have K6 := hid (K5.out.trans k6)
                 clear k6)
              | (go_at_call 32
                 obtain ⟨f7, hk7⟩ := (HK.out.kp0 K6.out).narrow
                 refine (cut_any hk7 hii hppi hTi rfl HR.out.1 HR.out.2.1 (HW.out.srt _ _ HR.out.1) (by have := kids_len HW.out q.1; rw [kids_some HR.out.1] at this; exact this) HR.out.2.2 (fun i hi => hi.2) (by omega) (HC.out.one hTi)).mono ?_
                 rintro e w8 ⟨f', b', n', c', rfl, r8, fr8, kf8, k8⟩
                 have R8 := hid r8
                 have FR8 := hid fr8
                 have KF8 := hid kf8
                 have K8 := hid ((K6.out.mono (T := S) fun i _ h => h.elim).trans (k8.mono fun i _ h => h.1))
                 have hz8 := k8.size
                 have HZ8 := hid hz8
                 clear hk7 k8 kf8 r8 fr8 hz8)
              | (go_at_call 30
                 obtain ⟨q3, hq3, hs3, hl3⟩ := HP2.out
                 refine (hang_any KF8.out hii hp hq3 HI.out hs3 hl3 R8.out FR8.out (fun i hi => by have := hi.2; have := HZ8.out; omega) (by omega)).mono ?_
                 rintro e w9 ⟨⟨v9, rfl⟩, k9, n9⟩
                 have N9 := hid n9
                 have K9 := hid (K8.out.trans (k9.mono fun i _ h => h.1))
                 clear k9 n9 hq3 hs3 hl3))
            go_ret
            have h1 := HC.out.one hTi
            refine ⟨rfl, ⟨cnt, HC.out.move HW.out hTi h0 hTp hin, by omega, ?_⟩, K9.out⟩
            have h2 := N9.out
            rw [show cnt - 1 + 1 = cnt by omega] at h2
            have h3 : movT T id p = hangT (cutT T id) id p q.2 := by unfold movT; rw [kids_some hTi]
            rw [h3]
            refine h2.mono fun i hi => ?_
            rcases hi with hi | hi
            · exact hi.1
            · exact HS.out i (Nat.le_trans K8.out.size hi)
end
end Go.Proofs.Ytggmdgdgljlddaa

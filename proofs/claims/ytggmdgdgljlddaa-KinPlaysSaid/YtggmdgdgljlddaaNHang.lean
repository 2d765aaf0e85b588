/-
  Contracts of New and hang.
-/
import Derived.Test.YtggmdgdgljlddaaNMem
import Derived.Test.YtggmdgdgljlddaaStill
import Derived.Deep.DeepCutAuto
import Derived.Deep.CutRange
namespace Go.Proofs.Ytggmdgdgljlddaa
open Go.RowKit

theorem new_any (w : World) : Calls Try.prog 5 #[] w fun e w' => ∃ g m, e = .returned (.pointer (some ⟨g, 0, none⟩)) ∧ w.heap.size ≤ g ∧ w.heap.size ≤ m ∧ Kn w' (fun i => w.heap.size ≤ i) g m newT 1 ∧ Kp No w w' := by
  have hmm := @run_makeMap Try.prog
  have m1 := Mk.new (P := Try.prog) (tk := 3) (ev := gev) (enc := genc) w
  obtain ⟨w2, hr, m2, k2⟩ := m1.put gK ⟨-1, none, 0, 0⟩ (x := 0) (by unfold I64; omega) (by simp [maxLen])
  have k1 := (Kp.refl No w).alloc (.map #[] 0)
  have K2 := hid (k1.step k2 fun i hi e => by cases e; omega)
  have M2 := hid m2
  simp only [gev, gsl, ga, Option.map_none] at hr
  have hsz := k2.size
  rw [World.size_alloc] at hsz
  clear m1 k1 k2 m2
  go_enter Try.func5, Try.ntmps5
  go_wp2
  go_ret
  refine ⟨w2.heap.size, w.heap.size, rfl, by omega, Nat.le_refl _, ⟨_, Blk.new w2 _ _, M2.out.kp0 ((Kp.refl No w2).alloc _), ⟨fun x => ?_, fun x a hx => ?_, fun x a k hx hk => ?_, fun x y a a' k hx hy hn => ?_⟩, by omega, Nat.le_refl _, by omega⟩, K2.out.alloc _⟩
  · unfold newT
    by_cases e : x = 0 <;> simp [e]
  · split at hx
    · rename_i e
      subst e
      cases hx
      exact ⟨_, rfl, rfl, RowI.nil _⟩
    · cases hx
  · split at hx
    · cases hx
      cases hk
    · cases hx
  · split at hx
    · split at hy
      · rename_i e1 e2
        exact absurd (e1.trans e2.symm) hn
      · cases hy
    · cases hx

/-- What hang leaves in the map. -/
def hangF (f : Int → Option Gr) (id p : Int) (u v : Gr) : Int → Option Gr := fun x => if x = p then some v else if x = id then some u else f x
section
variable {w w' : World} {S : Nat → Prop} {g m cnt n c n' c' : Nat} {b b' : Option Nat} {f : Int → Option Gr} {T : Tre} {id p : Int} {q : Int × List Int} {ks : List Int}
theorem hang_fo (h : Fo w S g m f T) (hTp : T p = some q) (hTi : T id = none) {a : Gr} (ha : f p = some a) (hfr : ∀ k, b = some k → S k ∧ k ≠ g ∧ k ≠ m ∧ ∀ x a, f x = some a → a.b ≠ some k)
    (hlt : ∀ i, S i → i < w.heap.size) (hr : RowI w b n c ks) (k : Kp (fun i => i = m ∨ a.b = some i) w w') (hr' : RowI w' b' n' c' (insI id q.2)) (hb' : b' = a.b ∨ ∀ k, b' = some k → w.heap.size ≤ k) (hg : S g) (hm : S m) :
    Fo w' (fun i => S i ∨ w.heap.size ≤ i) g m (hangF f id p ⟨p, b, n, c⟩ ⟨a.p, b', n', c'⟩) (hangT T id p ks) := by
  have hne : id ≠ p := fun e => by rw [e, hTp] at hTi; cases hTi
  have hfi : f id = none := by
    have := h.same id
    rw [hTi] at this
    cases e : f id with
    | none => rfl
    | some _ => rw [e] at this; cases this
  have keep : ∀ x a', f x = some a' → x ≠ p → ∀ k, a'.b = some k → ¬ (k = m ∨ a.b = some k) := fun x a' hx hxp k hk e => by
    rcases e with e | e
    · exact (h.own x a' k hx hk).2.2 e
    · exact h.dis x p a' a k hx ha hxp hk e
  have new : ∀ k, b' = some k → (S k ∨ w.heap.size ≤ k) ∧ k ≠ g ∧ k ≠ m ∧ (∀ x a', f x = some a' → x ≠ p → a'.b ≠ some k) ∧ b ≠ some k := fun k hk => by
    rcases hb' with e | e
    · rw [e] at hk
      have := h.own p a k ha hk
      exact ⟨.inl this.1, this.2.1, this.2.2, fun x a' hx hxp => h.dis p x a a' k ha hx (Ne.symm hxp) hk, fun e => (hfr k e).2.2.2 p a ha hk⟩
    · have h1 := e k hk
      have h2 := hlt g hg
      have h3 := hlt m hm
      exact ⟨.inr h1, by omega, by omega, fun x a' hx _ e2 => by have := hlt k (h.own x a' k hx e2).1; omega, fun e2 => by have := hlt k (hfr k e2).1; omega⟩
  refine ⟨fun x => ?_, fun x a' hx => ?_, fun x a' k hx hk => ?_, fun x y a1 a2 k hx hy hxy hk => ?_⟩
  · rw [hang_at hTp]
    unfold hangF
    split
    · rfl
    · split
      · rfl
      · exact h.same x
  · rw [hang_at hTp]
    unfold hangF at hx
    split at hx
    · rename_i e
      cases hx
      obtain ⟨q', h1, h2, _⟩ := h.row p a ha
      rw [hTp] at h1
      cases h1
      exact ⟨_, if_pos e, h2, hr'⟩
    · rename_i e
      split at hx
      · rename_i e1
        cases hx
        refine ⟨(p, ks), by rw [if_neg e, if_pos e1], rfl, hr.kp k fun i hi e2 => ?_⟩
        rcases e2 with e2 | e2
        · exact (hfr i hi).2.2.1 e2
        · exact (hfr i hi).2.2.2 p a ha e2
      · rename_i e1
        obtain ⟨q', h1, h2, h3⟩ := h.row x a' hx
        exact ⟨q', by rw [if_neg e, if_neg e1]; exact h1, h2, h3.kp k fun i hi => keep x a' hx e i hi⟩
  · unfold hangF at hx
    split at hx
    · cases hx
      exact ⟨(new k hk).1, (new k hk).2.1, (new k hk).2.2.1⟩
    · split at hx
      · cases hx
        exact ⟨.inl (hfr k hk).1, (hfr k hk).2.1, (hfr k hk).2.2.1⟩
      · have := h.own x a' k hx hk
        exact ⟨.inl this.1, this.2⟩
  · unfold hangF at hx hy
    split at hx
    · rename_i e1
      cases hx
      split at hy
      · rename_i e2
        exact absurd (e1.trans e2.symm) hxy
      · rename_i e2
        split at hy
        · cases hy
          exact (new k hk).2.2.2.2
        · exact (new k hk).2.2.2.1 y a2 hy e2
    · rename_i e1
      split at hx
      · rename_i e2
        cases hx
        split at hy
        · cases hy
          intro e3
          exact (new k e3).2.2.2.2 hk
        · split at hy
          · rename_i e4
            exact absurd (e2.trans e4.symm) hxy
          · exact (hfr k hk).2.2.2 y a2 hy
      · split at hy
        · cases hy
          intro e3
          exact (new k e3).2.2.2.1 x a1 hx e1 hk
        · split at hy
          · cases hy
            intro e3
            exact (hfr k e3).2.2.2 x a1 hx hk
          · exact h.dis x y a1 a2 k hx hy hxy hk
set_option maxHeartbeats 1000000 in
set_option maxRecDepth 100000 in
theorem hang_any (h : Kf w S g m f T cnt) (hii : I64 id) (hp : I64 p) (hTp : T p = some q) (hTi : T id = none) (hsrt : q.2.Pairwise (· < ·)) (hql : q.2.length ≤ 1048577) (hr : RowI w b n c ks) (hfr : ∀ k, b = some k → S k ∧ k ≠ g ∧ k ≠ m ∧ ∀ x a, f x = some a → a.b ≠ some k) (hlt : ∀ i, S i → i < w.heap.size) (hcnt : cnt < 100000000) :
    Calls Try.prog 30 #[.pointer (some ⟨g, 0, none⟩), .int .i64 id, .int .i64 p, gsl b n c] w fun e w' => (∃ v, e = .returned v) ∧ Kp S w w' ∧ Kn w' (fun i => S i ∨ w.heap.size ≤ i) g m (hangT T id p ks) (cnt + 1) := by
  have hne : id ≠ p := fun e => by rw [e, hTp] at hTi; cases hTi
  have hfi : (f id).isSome = false := by rw [h.fo.same, hTi]; rfl
  obtain ⟨a, ha⟩ : ∃ a, f p = some a := Option.isSome_iff_exists.1 (by rw [h.fo.same, hTp]; rfl)
  obtain ⟨q', hq1, hap, har⟩ := h.fo.row p a ha
  rw [hTp] at hq1
  cases hq1
  have HF := hid h.fo
  have HR := hid hr
  have HFR := hid hfr
  have HLT := hid hlt
  have HSG := hid h.sg
  have HSM := hid h.sm
  have HGM := hid h.gm
  have hgl := h.hd.lt
  have hml := h.mp.lt
  have c0 := h.cell
  obtain ⟨w1, hr1, m1, k1⟩ := h.mp.put gK ⟨p, b, n, c⟩ hii (by simp [maxLen]; omega)
  simp only [hfi, Bool.false_eq_true, if_false] at m1
  have hd1 := h.hd.kp k1 fun e => h.gm e
  have c1 := hd1.cell 0
  simp only [List.getElem?_toArray, List.getElem?_cons_zero] at c1
  have hl1 := Mk.look_some gK m1 hp (a := a) (by rw [if_neg (Ne.symm hne)]; exact ha) false
  simp only [Bool.false_eq_true, if_false, gev, gsl] at hr1 hl1
  have hsz1 := k1.size
  have HM1 := hid m1
  have K1 := hid k1
  have HD1 := hid hd1
  obtain ⟨ap, ab, an, ac⟩ := a
  have AR1 := hid (har.kp k1 fun k hk e => (h.fo.own p _ k ha hk).2.2 e)
  have HA := hid ha
  have AB := hid (show ∀ k, ab = some k → k < w.heap.size ∧ k ≠ m ∧ S k ∧ k ≠ g from fun k hk => ⟨hlt k (h.fo.own p _ k ha hk).1, (h.fo.own p _ k ha hk).2.2, (h.fo.own p _ k ha hk).1, (h.fo.own p _ k ha hk).2.1⟩)
  simp only at hl1 hap AR1
  clear h hr hfr hlt m1 k1 hd1 ha har hap hfi
  unfold gsl
  go_enter Try.func30, Try.ntmps30
  go_upto_region 2 with fail
  have O2 := hid (Blk.new w1 43 #[.int .i64 ap, .slice (ga ab) an ac])
  have K2 := hid ((Kp.refl No w1).alloc (.cells #[.int .i64 ap, .slice (ga ab) an ac] 43))
  have hz2 : (w1.alloc (.cells #[.int .i64 ap, .slice (ga ab) an ac] 43)).heap.size = w1.heap.size + 1 := World.size_alloc _ _
  generalize w1.alloc (.cells #[.int .i64 ap, .slice (ga ab) an ac] 43) = w2 at O2 K2 hz2 ⊢
  have o1 := O2.out.cell 1
  simp only [List.getElem?_toArray, List.getElem?_cons_zero, List.getElem?_cons_succ] at o1
  generalize hob : w1.heap.size = ob at O2 hz2 o1 ⊢
  go_wp2_with (first
    | (go_at_call 34
       refine (bs_row (AR1.out.kp0 K2.out) hsrt (by omega) id).mono ?_
       rintro e w3 ⟨rfl, k3⟩
       have K3 := hid (K2.out.trans k3)
       have O3 := hid (O2.out.kp0 k3)
       have o1' := O3.out.cell 1
       simp only [List.getElem?_toArray, List.getElem?_cons_zero, List.getElem?_cons_succ] at o1'
       have hz3 := k3.size
       have hab : ab ≠ some w3.heap.size := fun e => by have := (AB.out _ e).1; omega
       clear k3))
  go_wp2_with fail
  refine (ins_row ((AR1.out.kp0 K3.out).kp0 ((Kp.refl No w3).alloc (.cells #[.int .i64 id] 3))) (by omega) (Blk.new w3 3 #[.int .i64 id]) hab).mono ?_
  rintro e w4 ⟨b4, c4, rfl, r4, hb4, k4⟩
  have k34 := (Kp.refl No w3).alloc (.cells #[.int .i64 id] 3)
  have K4 := hid ((K3.out.trans k34).all.trans k4)
  have O4 := hid ((O3.out.kp0 k34).kp k4 fun e => by have := (AB.out _ e).1; omega)
  have R4 := hid r4
  have hz4 := k4.size
  rw [World.size_alloc] at hz4
  have HB4 := hid (show b4 = ab ∨ ∀ k, b4 = some k → w3.heap.size < k from hb4.imp (fun h => h) fun h k hk => by have := h k hk; rw [World.size_alloc] at this; omega)
  have o2 := O4.out.cell 1
  have z2 := O4.out.frozen 1
  simp only [List.getElem?_toArray, List.getElem?_cons_zero, List.getElem?_cons_succ] at o2
  unfold gsl
  clear k4 k34 r4 hb4 o1 o1'
  go_upto_region 4 with fail
  have O5 := hid ((O4.out.put 1 (.slice (ga b4) (an + 1) c4)).kp0 (Kp.refl No _).drew)
  have k5 := (K4.out.setCell (p := ⟨ob, 1, none⟩) (.inr (show w1.heap.size ≤ ob by omega)) (.slice (ga b4) (an + 1) c4)).drew
  have k45 := ((Kp.refl (Only ob) w4).setCell (p := ⟨ob, 1, none⟩) (.inl rfl) (.slice (ga b4) (an + 1) c4)).drew
  have hob4 : b4 ≠ some ob := fun e => by
    rcases HB4.out with e1 | e1
    · have := (AB.out ob (by rw [← e1]; exact e)).1
      omega
    · have := e1 ob e
      omega
  have R5 := hid (R4.out.kp k45 fun k hk e => hob4 (by rw [hk]; exact congrArg some e))
  have K5 := hid k5
  have hm5 := HM1.out.kp k5 fun e => (AB.out m e).2.1 rfl
  have d5 := HD1.out.kp k5 fun e => (AB.out g e).2.2.2 rfl
  have hg5 := d5.cell 0
  have hD5 := hid d5
  have hz5 := k45.size
  simp only [List.getElem?_toArray, List.getElem?_cons_zero] at hg5
  obtain ⟨w6, hr6, m6, k6⟩ := hm5.put gK ⟨ap, b4, an + 1, c4⟩ hp (by simp [maxLen]; omega)
  have hsome : (if p = id then some ({ p := p, b := b, n := n, c := c } : Gr) else f p).isSome = true := by rw [if_neg (Ne.symm hne), HA.out]; rfl
  rw [hsome, if_pos rfl] at m6
  have M6 := hid m6
  have K6 := hid k6
  simp only [gev, gsl] at hr6
  clear k5 k45 hm5 d5 m6 k6 o2 z2
  refine region_tail 6 (by kernel_rfl) (by kernel_rfl) ?_
  simp only [List.take_succ_cons, List.take_zero, List.drop_succ_cons, List.drop_zero]
  generalize (w4.setCell ⟨ob, 1, none⟩ (.slice (ga b4) (an + 1) c4)).drew = w5 at O5 R5 K5 hg5 hD5 hr6 K6 hz5 ⊢
  have o5a : w5.cell? ⟨ob, 0, none⟩ = some (.int .i64 ap) := O5.out.cell 0
  have o5b : w5.cell? ⟨ob, 1, none⟩ = some (.slice (ga b4) (an + 1) c4) := O5.out.cell 1
  repeat still_step
  refine wpStill_nil ?_
  go_wp2
  refine bodyPost_end (results_none rfl _ _ _) rfl ⟨⟨_, rfl⟩, ?_⟩
  have kk : Kp (fun i => i = m ∨ ab = some i) w w6 := ((K1.out.mono fun i _ e => .inl e).step K5.out fun i _ e => .inr e).step K6.out fun i _ e => .inl e
  refine ⟨kk.mono fun i _ e => ?_, _, hD5.out.kp K6.out (fun e => HGM.out e), M6.out, ?_, .inl HSG.out, .inl HSM.out, HGM.out⟩
  · rcases e with rfl | e
    · exact HSM.out
    · exact (AB.out i e).2.2.1
  · have hbm : ∀ k, b4 = some k → k ≠ m := fun k hk e => by
      rcases HB4.out with e1 | e1
      · exact (AB.out k (by rw [← e1]; exact hk)).2.1 e
      · have := e1 k hk
        omega
    exact hang_fo HF.out hTp hTi HA.out HFR.out HLT.out HR.out kk (R5.out.kp K6.out fun k hk e => hbm k hk e) (HB4.out.imp (fun h => h) fun h k hk => by have := h k hk; omega) HSG.out HSM.out
end
end Go.Proofs.Ytggmdgdgljlddaa

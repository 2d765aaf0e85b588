/-
  Contract of cut.
-/
import Derived.Test.YtggmdgdgljlddaaNMem
import Derived.Test.YtggmdgdgljlddaaStill
import Derived.Deep.DeepCutAuto
import Derived.Deep.CutRange
namespace Go.Proofs.Ytggmdgdgljlddaa
open Go.RowKit

/-- What cut leaves in the map. -/
def cutF (f : Int → Option Gr) (id p : Int) (v : Gr) : Int → Option Gr := fun x => if x = p then some v else if x = id then none else f x
section
variable {w w' : World} {S : Nat → Prop} {g m cnt n' : Nat} {f : Int → Option Gr} {T : Tre} {id p : Int} {q r : Int × List Int}
theorem cut_fo (h : Fo w S g m f T) (hcT : ∀ x, cutT T id x = if x = p then some (r.1, delI id r.2) else if x = id then none else T x) (hTp : T p = some r) {a : Gr} (ha : f p = some a) {k0 : Nat} (hk0 : a.b = some k0)
    (k : Kp (fun i => i = m ∨ i = k0) w w') (hr' : RowI w' a.b n' a.c (delI id r.2)) : Fo w' S g m (cutF f id p ⟨a.p, a.b, n', a.c⟩) (cutT T id) := by
  have keep : ∀ x a', f x = some a' → x ≠ p → ∀ i, a'.b = some i → ¬ (i = m ∨ i = k0) := fun x a' hx hxp i hk e => by
    rcases e with e | e
    · exact (h.own x a' i hx hk).2.2 e
    · subst e; exact h.dis x p a' a i hx ha hxp hk hk0
  refine ⟨fun x => ?_, fun x a' hx => ?_, fun x a' k hx hk => ?_, fun x y a1 a2 k hx hy hxy hk => ?_⟩
  · rw [hcT]
    unfold cutF
    split
    · rfl
    · split
      · rfl
      · exact h.same x
  · rw [hcT]
    unfold cutF at hx
    split at hx
    · rename_i e
      cases hx
      obtain ⟨q', h1, h2, _⟩ := h.row p a ha
      rw [hTp] at h1
      cases h1
      exact ⟨_, if_pos e, h2, hr'⟩
    · rename_i e
      split at hx
      · cases hx
      · rename_i e1
        obtain ⟨q', h1, h2, h3⟩ := h.row x a' hx
        exact ⟨q', by rw [if_neg e, if_neg e1]; exact h1, h2, h3.kp k fun i hi => keep x a' hx e i hi⟩
  · unfold cutF at hx
    split at hx
    · cases hx
      exact h.own p a k ha hk
    · split at hx
      · cases hx
      · exact h.own x a' k hx hk
  · unfold cutF at hx hy
    split at hx
    · rename_i e1
      cases hx
      split at hy
      · rename_i e2
        exact absurd (e1.trans e2.symm) hxy
      · rename_i e2
        split at hy
        · cases hy
        · exact h.dis p y a a2 k ha hy (Ne.symm e2) hk
    · rename_i e1
      split at hx
      · cases hx
      · split at hy
        · cases hy
          exact h.dis x p a1 a k hx ha e1 hk
        · split at hy
          · cases hy
          · exact h.dis x y a1 a2 k hx hy hxy hk
/-- What is cut away, and what is left. -/
def CutPost (S : Nat → Prop) (g m : Nat) (T : Tre) (cnt : Nat) (id : Int) (ks : List Int) (w : World) (e : Ending) (w' : World) : Prop :=
  ∃ f' b n c, e = .returned (gsl b n c) ∧ RowI w' b n c ks ∧ (∀ k, b = some k → S k ∧ k ≠ g ∧ k ≠ m ∧ ∀ x a, f' x = some a → a.b ≠ some k) ∧ Kf w' S g m f' (cutT T id) (cnt - 1) ∧ Kp S w w'
set_option maxHeartbeats 1000000 in
set_option maxRecDepth 100000 in
theorem cut_any (h : Kf w S g m f T cnt) (hii : I64 id) (hpp : I64 p) (hTi : T id = some q) (hq : q.1 = p) (hTp : T p = some r) (hm : id ∈ r.2) (hsrt : r.2.Pairwise (· < ·)) (hrl : r.2.length ≤ 1048577) (hne : p ≠ id) (hlt : ∀ i, S i → i < w.heap.size) (hcnt : cnt < 100000000) (hc1 : 1 ≤ cnt) :
    Calls Try.prog 32 #[.pointer (some ⟨g, 0, none⟩), .int .i64 id] w (CutPost S g m T cnt id q.2 w) := by
  have hcT : ∀ x, cutT T id x = if x = p then some (r.1, delI id r.2) else if x = id then none else T x := fun x => by
    unfold cutT setT
    rw [par_some hTi, hq, par_some hTp, kids_some hTp]
  obtain ⟨a, ha⟩ : ∃ a, f id = some a := Option.isSome_iff_exists.1 (by rw [h.fo.same, hTi]; rfl)
  obtain ⟨q', hq1, hap, har⟩ := h.fo.row id a ha
  rw [hTi] at hq1
  cases hq1
  obtain ⟨a2, ha2⟩ : ∃ a, f p = some a := Option.isSome_iff_exists.1 (by rw [h.fo.same, hTp]; rfl)
  obtain ⟨r', hr1, hap2, har2⟩ := h.fo.row p a2 ha2
  rw [hTp] at hr1
  cases hr1
  have HF := hid h.fo
  have HLT := hid hlt
  have HSG := hid h.sg
  have HSM := hid h.sm
  have HGM := hid h.gm
  have hgl := h.hd.lt
  have hml := h.mp.lt
  have c0 := h.cell
  have HD := hid h.hd
  have hl1 := Mk.look_some gK h.mp hii ha false
  have HA := hid ha
  have HA2 := hid ha2
  have HAR := hid har
  have HAR2 := hid har2
  have HMP := hid h.mp
  have HCT := hid hcT
  obtain ⟨ap, ab, an, ac⟩ := a
  obtain ⟨bp, bb, bn, bc⟩ := a2
  simp only at hap hap2
  obtain ⟨k0, hk0, _⟩ := del_row har2 hsrt hm
  simp only at hk0
  subst hk0
  have hap' : ap = p := hap.trans hq
  subst hap'
  have hk0s := h.fo.own _ _ k0 ha2 rfl
  have hk0l := hlt k0 hk0s.1
  have hk0a : ab ≠ some k0 := fun e => h.fo.dis id ap _ _ k0 ha ha2 (Ne.symm hne) e rfl
  have OWN := hid (show ∀ k, ab = some k → S k ∧ k ≠ g ∧ k ≠ m from fun k hk => h.fo.own id _ k ha hk)
  simp only [Bool.false_eq_true, if_false, gev, gsl] at hl1
  -- behind the first alloc
  have m1 := h.mp.kp0 ((Kp.refl No w).alloc (.cells #[.int .i64 ap, .slice (ga ab) an ac] 43))
  obtain ⟨w2, hdel, m2, k2⟩ := m1.del gK hii 0
  have hs1 : (f id).isSome = true := by rw [ha]; rfl
  rw [hs1, if_pos rfl] at m2
  have hl2 := Mk.look_some gK m2 hpp (a := ⟨bp, some k0, bn, bc⟩) (by rw [if_neg hne]; exact ha2) false
  simp only [Bool.false_eq_true, if_false, gev, gsl] at hl2
  have hz2 := k2.size
  rw [World.size_alloc] at hz2
  have K2 := hid (((Kp.refl (Only m) w).alloc (.cells #[.int .i64 ap, .slice (ga ab) an ac] 43)).trans k2)
  have O2 := hid ((Blk.new w 43 #[.int .i64 ap, .slice (ga ab) an ac]).kp k2 fun e => by have e : w.heap.size = m := e; omega)
  have D2 := hid (h.hd.kp K2.out fun e => h.gm e)
  have M2 := hid m2
  have c2 := D2.out.cell 0
  have o2 := O2.out.cell 0
  simp only [List.getElem?_toArray, List.getElem?_cons_zero] at c2 o2
  clear h hlt ha ha2 har har2 m1 m2 k2 hcT hap hap2 hq hs1
  go_enter Try.func32, Try.ntmps32
  go_upto_region 3 with fail
  have hlA := Mk.look_some gK (M2.out.kp0 (Kp.refl No w2).drew) hpp (a := ⟨bp, some k0, bn, bc⟩) (by rw [if_neg hne]; exact HA2.out) false
  have hlB := Mk.look_some gK (M2.out.kp0 ((Kp.refl No w2).drew.alloc (.cells #[.int .i64 0, .slice none 0 0] 43))) hpp (a := ⟨bp, some k0, bn, bc⟩) (by rw [if_neg hne]; exact HA2.out) false
  have hlC := Mk.look_some gK (M2.out.kp0 ((Kp.refl No w2).alloc (.cells #[.int .i64 0, .slice none 0 0] 43)).drew) hpp (a := ⟨bp, some k0, bn, bc⟩) (by rw [if_neg hne]; exact HA2.out) false
  simp only [Bool.false_eq_true, if_false, gev, gsl] at hlA hlB hlC
  have hg2 := D2.out.lt
  have ho2 := O2.out.lt
  go_cut [6] from 20 to 26 (fun v wx => v = .pointer (some ⟨w2.heap.size, 0, none⟩) ∧ wx = (w2.alloc (.cells #[.int .i64 bp, .slice (ga (some k0)) bn bc] 43)).drew)
  case first =>
    go_region
    all_goals
      go_wp2_with fail
      go_meet
      exact ⟨rfl, rfl⟩
  case rest =>
    obtain ⟨rfl, rfl⟩ := hcut
    have k3 := ((Kp.refl No w2).alloc (.cells #[.int .i64 bp, .slice (ga (some k0)) bn bc] 43)).drew
    have P3 := hid ((Blk.new w2 43 #[.int .i64 bp, .slice (ga (some k0)) bn bc]).kp0 (Kp.refl No _).drew)
    have hz3 : ((w2.alloc (.cells #[.int .i64 bp, .slice (ga (some k0)) bn bc] 43)).drew).heap.size = w2.heap.size + 1 := by simp
    have K3 := hid (K2.out.trans k3.all)
    have K23 := hid k3
    clear hlA hlB hlC hl1 hl2 hdel c0 k3
    generalize (w2.alloc (.cells #[.int .i64 bp, .slice (ga (some k0)) bn bc] 43)).drew = w3 at P3 K3 K23 hz3 ⊢
    generalize hob : w2.heap.size = ob at P3 hz3 ⊢
    have p3 := P3.out.cell 1
    simp only [List.getElem?_toArray, List.getElem?_cons_zero, List.getElem?_cons_succ] at p3
    have hkm : ∀ i, Only m i → i ≠ k0 := fun i e e2 => by cases e; exact hk0s.2.2 e2.symm
    go_upto_region 5 with (first
      | (go_at_call 34
         refine (bs_row (HAR2.out.kp K3.out fun k hk e => by cases hk; exact hkm _ e rfl) hsrt (by omega) id).mono ?_
         rintro e w4 ⟨rfl, k4⟩
         have K4 := hid (K3.out.trans k4.all)
         have K24 := hid (K23.out.trans k4)
         have P4 := hid (P3.out.kp0 k4)
         have p4 := P4.out.cell 1
         simp only [List.getElem?_toArray, List.getElem?_cons_zero, List.getElem?_cons_succ] at p4
         have hz4 := k4.size
         clear k4))
    have hpl := pos_le id r.2
    have hwp := wrapI (x := ((posI id r.2 : Nat) : Int) + 1) (by unfold I64; omega)
    obtain ⟨_, hke, hdr⟩ := del_row (HAR2.out.kp K4.out fun k hk e => by cases hk; exact hkm _ e rfl) hsrt hm
    cases hke
    have HDR := hid hdr
    clear p3 hdr
    simp only [gsl] at HDR
    go_upto_region 6 with (first
      | (go_at_call 37
         refine HDR.out.mono ?_
         rintro e w5 ⟨rfl, r5, k5⟩
         have K5 := hid ((K4.out.mono fun i _ e => .inl e).trans (k5.mono (T := fun i => i = m ∨ i = k0) fun i _ e => .inr e))
         have K25 := hid ((K24.out.all (S := Only k0)).trans k5)
         have P5 := hid (P4.out.kp k5 fun e => by have e : ob = k0 := e; have := K2.out.size; omega)
         have R5 := hid r5
         have p5 := P5.out.cell 1
         have z5 := P5.out.frozen 1
         simp only [List.getElem?_toArray, List.getElem?_cons_zero, List.getElem?_cons_succ] at p5
         have hz5 := k5.size
         clear k5 r5 p4))
    have hkw : k0 ≠ w.heap.size := by omega
    have hkob : k0 ≠ ob := by have := K2.out.size; omega
    have hwob : w.heap.size ≠ ob := by omega
    have P6 := hid ((P5.out.put 1 (.slice (ga (some k0)) (bn - 1) bc)).kp0 (Kp.refl No _).drew)
    have k56 := ((Kp.refl (Only ob) w5).setCell (p := ⟨ob, 1, none⟩) (.inl rfl) (.slice (ga (some k0)) (bn - 1) bc)).drew
    have k26 := (K25.out.setCell (p := ⟨ob, 1, none⟩) (.inr (show w2.heap.size ≤ ob by omega)) (.slice (ga (some k0)) (bn - 1) bc)).drew
    have O6 := hid (O2.out.kp k26 fun e => hkw e.symm)
    have D6 := hid (D2.out.kp k26 fun e => hk0s.2.1 e.symm)
    have M6 := hid (M2.out.kp k26 fun e => hk0s.2.2 e.symm)
    have R6 := hid (R5.out.kp k56 fun k hk e => by cases hk; exact hkob e)
    have AR6 := hid ((HAR.out.kp K2.out fun k hk e => (OWN.out k hk).2.2 e).kp k26 fun k hk e => by cases e; exact hk0a hk)
    have K6 := hid ((K2.out.mono (T := fun i => i = m ∨ i = k0) fun i _ e => .inl e).trans (k26.mono fun i _ e => .inr e))
    obtain ⟨w7, hr7, m7, k7⟩ := M6.out.put gK ⟨bp, some k0, bn - 1, bc⟩ hpp (by simp [maxLen]; omega)
    have hsome : (if ap = id then none else f ap).isSome = true := by rw [if_neg hne, HA2.out]; rfl
    rw [hsome, if_pos rfl] at m7
    simp only [gev, gsl] at hr7
    have M7 := hid m7
    have K7 := hid k7
    clear m7 k7 k56 k26 p5 z5 c2 o2 hsome
    refine region_tail 7 (by kernel_rfl) (by kernel_rfl) ?_
    simp only [List.take_succ_cons, List.take_zero, List.drop_succ_cons, List.drop_zero]
    generalize (w5.setCell ⟨ob, 1, none⟩ (.slice (ga (some k0)) (bn - 1) bc)).drew = w6 at P6 O6 D6 R6 AR6 K6 hr7 K7 ⊢
    have a1 : w6.cell? ⟨ob, 0, none⟩ = some (.int .i64 bp) := P6.out.cell 0
    have a2 : w6.cell? ⟨ob, 1, none⟩ = some (.slice (ga (some k0)) (bn - 1) bc) := P6.out.cell 1
    have a3 : w6.cell? ⟨g, 0, none⟩ = some (.map (some m)) := D6.out.cell 0
    have a4 : w6.cell? ⟨w.heap.size, 0, none⟩ = some (.int .i64 ap) := O6.out.cell 0
    repeat still_step
    refine wpStill_nil ?_
    have O7 := O6.out.kp K7.out fun e => by have e : w.heap.size = m := e; omega
    have b7 : w7.cell? ⟨w.heap.size, 1, none⟩ = some (.slice (ga ab) an ac) := O7.cell 1
    go_wp2
    go_ret
    have kk : Kp (fun i => i = m ∨ i = k0) w w7 := K6.out.trans (K7.out.mono fun i _ e => .inl e)
    have hfo : (fun x => if x = ap then some (⟨bp, some k0, bn - 1, bc⟩ : Gr) else if x = id then none else f x) = cutF f id ap ⟨bp, some k0, bn - 1, bc⟩ := rfl
    refine ⟨cutF f id ap ⟨bp, some k0, bn - 1, bc⟩, ab, an, ac, rfl, AR6.out.kp K7.out (fun k hk e => (OWN.out k hk).2.2 e), fun k hk => ⟨(OWN.out k hk).1, (OWN.out k hk).2.1, (OWN.out k hk).2.2, fun x a' hx => ?_⟩, ⟨D6.out.kp K7.out (fun e => HGM.out e), M7.out, cut_fo HF.out HCT.out hTp HA2.out rfl kk (R6.out.kp K7.out fun k hk e => by cases hk; exact hk0s.2.2 e), HSG.out, HSM.out, HGM.out⟩, kk.mono fun i _ e => ?_⟩
    · unfold cutF at hx
      split at hx
      · cases hx
        intro e
        exact hk0a (by rw [hk]; exact e.symm)
      · split at hx
        · cases hx
        · rename_i e2
          exact HF.out.dis id x _ a' k HA.out hx (Ne.symm e2) hk
    · rcases e with rfl | rfl
      · exact HSM.out
      · exact hk0s.1
end
end Go.Proofs.Ytggmdgdgljlddaa

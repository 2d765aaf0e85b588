/-
  Contracts of Under, Tall.
-/
import Derived.Test.YtggmdgdgljlddaaNBelow
import Derived.Deep.DeepCutAuto
import Derived.Deep.CutRange
namespace Go.Proofs.Ytggmdgdgljlddaa
open Go.RowKit

section
variable {α : Type} {n : Nat} {f : α → Nat → Value} {d : α} {w : World} {base : Nat} {e : TypeId} {v : Value} {xs : List α}
theorem Ow.form2 (h : Ow w base e n f v xs) (h0 : 0 < xs.length) : ∃ b c, v = .slice (some ⟨b, 0, none⟩) xs.length c ∧ base ≤ b ∧ b < w.heap.size ∧ xs.length ≤ c ∧ c ≤ maxLen := by
  rcases h.2 with ⟨_, h1⟩ | ⟨g, cap, cur, rfl, hb, hg, hl, hm, _⟩
  · omega
  · exact ⟨g, cap, rfl, hb, (Array.getElem?_eq_some_iff.1 hg).1, hl, hm⟩
theorem Ow.cellAt {b m c j i : Nat} (h : Ow w base e n f (.slice (some ⟨b, 0, none⟩) m c) xs) (hj : j < xs.length) (hi : i < n) : w.cell? ⟨b, j * n + i, none⟩ = some (f (xs.getD j d) i) := by
  have hlt : j * n + i < xs.length * n := by
    have : (j + 1) * n ≤ xs.length * n := Nat.mul_le_mul_right _ hj
    rw [Nat.add_mul, Nat.one_mul] at this
    omega
  rcases h.2 with ⟨h1, _⟩ | ⟨g, cap, cur, h1, _⟩
  · cases h1
  · have := World.ownsRow.cellAt (h1 ▸ h) (j * n + i) hlt
    injection h1 with e1 _ _
    cases e1
    rw [this]
    exact flat_at xs hj hi
end
section
variable {T : Tre} {D : Int → Nat} {w : World} {S P : Nat → Prop} {g m cnt : Nat} {x : Int}
theorem take_s {α : Type} (l : List α) {k : Nat} (h : k < l.length) (d : α) : l.take (k + 1) = l.take k ++ [l.getD k d] := by
  rw [List.take_add_one, List.getElem?_eq_getElem h]
  simp [List.getD, h]
set_option maxHeartbeats 1000000 in
set_option maxRecDepth 100000 in
theorem under_any (W : WT T D) (h : Kn w S g m T cnt) (hx : I64 x) : Calls Try.prog 11 #[.pointer (some ⟨g, 0, none⟩), .int .i64 x] w fun e w' => ∃ v, e = .returned v ∧ Ow w' w.heap.size 3 1 zf v (under T x) ∧ Kp No w w' := by
  have HB := hid (below_any W h hx)
  have hl := places_len W x
  have HU := hid (show under T x = (places T x).map (·.1) from rfl)
  obtain ⟨ps, hps⟩ : ∃ ps, places T x = ps := ⟨_, rfl⟩
  unfold BelPost at HB
  rw [hps] at hl HU HB
  rw [HU.out]
  obtain ⟨n, hn⟩ : ∃ n, ps.length = n := ⟨_, rfl⟩
  have HN := hid hn
  rw [hn] at hl
  clear W h HU hps hn
  go_enter Try.func11, Try.ntmps11
  go_wp2_with (first
    | (go_at_call 27
       refine HB.out.mono ?_
       rintro e w2 ⟨v, rfl, o2, k2⟩
       obtain ⟨A, c, rfl⟩ := o2.formN HN.out
       have O2 := hid o2
       have K2 := hid k2
       have hz2 := k2.size
       clear o2 k2))
  go_loopw [5, 12] (fun u i wr => ∃ k : Nat, k ≤ n ∧ i = .int .i64 (k : Int) ∧ Hid (Ow wr w2.heap.size 3 1 zf u ((ps.take k).map (·.1))) ∧ Hid (Kp No w2 wr)) (fun _ i _ => n - (intOf i).toNat)
  case atStart => exact ⟨0, Nat.zero_le _, rfl, hid (Ow.nil _ _ _ _ _), hid (Kp.refl _ _)⟩
  case round =>
    obtain ⟨k, hk, rfl, HO, KW⟩ := hrel
    by_cases hkn : k < n
    · have hkl : k < ps.length := by rw [HN.out]; exact hkn
      have Ov := O2.out.kp0 KW.out
      obtain ⟨b, c', he, hb1, hb2, hc1, _⟩ := Ov.form2 (by omega)
      injection he with e1 e2 e3
      subst e1 e3
      clear e2
      have Ow1 := hid Ov
      have c0 := Ov.cellAt (d := (0, 0)) hkl (show 0 < 2 by omega)
      have c1 := Ov.cellAt (d := (0, 0)) hkl (show 1 < 2 by omega)
      simp only [pf, if_true, Nat.one_ne_zero, if_false, Nat.add_zero] at c0 c1
      have HT := hid (take_s ps hkl (0, 0))
      have HYM := hid (show ps.getD k (0, 0) ∈ ps by simp [List.getD, hkl])
      obtain ⟨y, hy⟩ : ∃ y, ps.getD k (0, 0) = y := ⟨_, rfl⟩
      rw [hy] at c0 c1 HT HYM
      obtain ⟨yi, yd⟩ := y
      simp only at c0 c1
      have hwk := wrapI (x := (k : Int) + 1) (by unfold I64; omega)
      have hg1 : (k : Int) < (n : Int) := by omega
      have X4 := (Blk.new wr 53 #[.int .i64 0, .int .i64 0])
      clear Ov hy
      have hlen : ((ps.take k).map (·.1)).length = k := by rw [List.length_map, List.length_take]; omega
      have HL := hid hlen
      have KA := hid ((KW.out.alloc (.cells #[.int .i64 yi, .int .i64 (yd : Int)] 53)).alloc (.cells #[.int .i64 yi] 3))
      have OA := hid (HO.out.kp0 (((Kp.refl No wr).alloc (.cells #[.int .i64 yi, .int .i64 (yd : Int)] 53)).alloc (.cells #[.int .i64 yi] 3)))
      have z0 := (Blk.new (wr.alloc (.cells #[.int .i64 yi, .int .i64 (yd : Int)] 53)) 3 #[.int .i64 yi]).cell 0
      rw [World.size_alloc] at z0
      have HZ := hid z0
      clear hlen X4 z0
      go_wp2_with (first
        | (at_builtin
           refine wp_app1 usI zf_one rfl (.tmp 16) (.tmp 19) rfl (base := w2.heap.size) (xs := (ps.take k).map (·.1)) (y := yi) (by exact OA.out) rfl (by
             intro i hi
             match i, hi with
             | 0, _ => exact HZ.out) (by rw [HL.out]; omega) (by rw [HL.out]; simp only [maxLen]; omega) (by exact KA.out.size) ?_
           intro v5 w5 o5 k5 p5
           have O5 := hid o5
           have K5 := hid (KA.out.grown k5 fun i hi => .inr (OA.out.blk hi).1)
           clear o5 k5 p5))
      go_roundw
      case rel => exact ⟨k + 1, by omega, by go_num, hid (by rw [HT.out, List.map_append]; exact O5.out), K5⟩
      case measure => simp [intOf]; omega
    · have : k = n := by omega
      subst this
      have hng : decide ((k : Int) < (k : Int)) = false := by simp
      go_wp2
      go_ret
      have h1 := HO.out
      rw [List.take_of_length_le (by rw [HN.out]; omega)] at h1
      exact ⟨_, rfl, h1.lower K2.out.size, K2.out.trans KW.out⟩
set_option maxHeartbeats 1000000 in
set_option maxRecDepth 100000 in
theorem tall_any (W : WT T D) (h : Kn w S g m T cnt) (hx : I64 x) : Calls Try.prog 17 #[.pointer (some ⟨g, 0, none⟩), .int .i64 x] w fun e w' => e = .returned (.int .i64 (tall T x)) ∧ Kp No w w' := by
  have HB := hid (below_any W h hx)
  have hl := places_len W x
  have HP := hid (fun p (hp : p ∈ places T x) => (place_in W hp).2)
  have HU := hid (show tall T x = (places T x).foldl (fun a p => max a (p.2 : Int)) (-1) from rfl)
  obtain ⟨ps, hps⟩ : ∃ ps, places T x = ps := ⟨_, rfl⟩
  unfold BelPost at HB
  rw [hps] at hl HU HB HP
  rw [HU.out]
  obtain ⟨n, hn⟩ : ∃ n, ps.length = n := ⟨_, rfl⟩
  have HN := hid hn
  rw [hn] at hl
  clear W h HU hps hn
  go_enter Try.func17, Try.ntmps17
  go_wp2_with (first
    | (go_at_call 27
       refine HB.out.mono ?_
       rintro e w2 ⟨v, rfl, o2, k2⟩
       obtain ⟨A, c, rfl⟩ := o2.formN HN.out
       have O2 := hid o2
       have K2 := hid k2
       have hz2 := k2.size
       clear o2 k2))
  go_loopw [5, 12] (fun u i wr => ∃ (k : Nat) (t : Int), k ≤ n ∧ i = .int .i64 (k : Int) ∧ u = .int .i64 t ∧ Hid (-1 ≤ t ∧ t ≤ 16) ∧ Hid ((ps.take k).foldl (fun a p => max a (p.2 : Int)) (-1) = t) ∧ Hid (Kp No w2 wr)) (fun _ i _ => n - (intOf i).toNat)
  case atStart => exact ⟨0, -1, Nat.zero_le _, rfl, rfl, hid (by omega), hid rfl, hid (Kp.refl _ _)⟩
  case round =>
    obtain ⟨k, t, hk, rfl, rfl, HR, HF, KW⟩ := hrel
    by_cases hkn : k < n
    · have hkl : k < ps.length := by rw [HN.out]; exact hkn
      have Ov := O2.out.kp0 KW.out
      obtain ⟨b, c', he, hb1, hb2, hc1, _⟩ := Ov.form2 (by omega)
      injection he with e1 e2 e3
      subst e1 e3
      clear e2
      have c0 := Ov.cellAt (d := (0, 0)) hkl (show 0 < 2 by omega)
      have c1 := Ov.cellAt (d := (0, 0)) hkl (show 1 < 2 by omega)
      simp only [pf, if_true, Nat.one_ne_zero, if_false, Nat.add_zero] at c0 c1
      have HT := hid (take_s ps hkl (0, 0))
      have HYM := hid (show ps.getD k (0, 0) ∈ ps by simp [List.getD, hkl])
      obtain ⟨y, hy⟩ : ∃ y, ps.getD k (0, 0) = y := ⟨_, rfl⟩
      rw [hy] at c0 c1 HT HYM
      obtain ⟨yi, yd⟩ := y
      simp only at c0 c1
      have hwk := wrapI (x := (k : Int) + 1) (by unfold I64; omega)
      have hg1 : (k : Int) < (n : Int) := by omega
      have hyd := HP.out _ HYM.out
      simp only at hyd
      obtain ⟨t2, ht2⟩ : ∃ t2, max t (yd : Int) = t2 := ⟨_, rfl⟩
      have hr := HR.out
      have HR2 := hid (show -1 ≤ t2 ∧ t2 ≤ 16 by omega)
      have HF2 := hid (show (ps.take (k + 1)).foldl (fun a p => max a (p.2 : Int)) (-1) = t2 by rw [HT.out, List.foldl_append, HF.out, ← ht2]; rfl)
      have KA := hid (KW.out.alloc (.cells #[.int .i64 yi, .int .i64 (yd : Int)] 53))
      clear Ov hy
      go_wp2_with fail
      go_roundw
      case rel => exact ⟨k + 1, t2, by omega, by go_num, rfl, HR2, HF2, KA⟩
      case measure => simp [intOf]; omega
    · have : k = n := by omega
      subst this
      have hng : decide ((k : Int) < (k : Int)) = false := by simp
      go_wp2
      go_ret
      have h1 := HF.out
      rw [List.take_of_length_le (by rw [HN.out]; omega)] at h1
      refine ⟨?_, K2.out.trans KW.out⟩
      rw [h1]
      rfl
end
end Go.Proofs.Ytggmdgdgljlddaa

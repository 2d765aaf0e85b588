/-
  Contracts of the program's Unpack, and of the chapter's example.
-/
import Derived.Test.YthhikjgaljkfpaaDoorPG
namespace Go.Proofs.YthhikjgaljkfpaaDoor
open Go.RowKit

theorem unp_bad {xs : List Int} {x : Int} (h : (hd xs).2 = x) (h0 : x ≠ 0) : unp xs = (x, []) := by
  subst h
  unfold hd at h0 ⊢
  unfold unp
  by_cases h1 : xs.length < 9
  · rw [if_pos h1, if_pos h1]
  rw [if_neg h1] at h0
  rw [if_neg h1, if_neg h1]
  by_cases h2 : xs.take 4 ≠ [68, 80, 90, 49]
  · rw [if_pos h2, if_pos h2]
  rw [if_neg h2] at h0
  rw [if_neg h2, if_neg h2]
  by_cases h3 : (xs.drop 5).take 4 ≠ ck4 (xs.take 5)
  · rw [if_pos h3, if_pos h3]
  rw [if_neg h3] at h0
  rw [if_neg h3, if_neg h3]
  by_cases h4 : 16 < xs.getD 4 0
  · rw [if_pos h4, if_pos h4]
  rw [if_neg h4] at h0
  exact absurd rfl h0
theorem unp_good {xs : List Int} (hb : Bs xs) (h : (hd xs).2 = 0) : ∃ m : Nat, (hd xs).1 = (m : Int) ∧ m ≤ 16 ∧ 9 ≤ xs.length ∧
    unp xs = if xs.length < 13 + 7 * m then (2, []) else if (xs.drop (9 + 7 * m)).take 4 ≠ ck4 (xs.take (9 + 7 * m)) then (4, []) else unpRest xs m := by
  have g4 := getD_rg hb 4
  unfold hd at h ⊢
  unfold unp
  by_cases h1 : xs.length < 9
  · rw [if_pos h1] at h; simp at h
  rw [if_neg h1] at h
  rw [if_neg h1, if_neg h1]
  by_cases h2 : xs.take 4 ≠ [68, 80, 90, 49]
  · rw [if_pos h2] at h; simp at h
  rw [if_neg h2] at h
  rw [if_neg h2, if_neg h2]
  by_cases h3 : (xs.drop 5).take 4 ≠ ck4 (xs.take 5)
  · rw [if_pos h3] at h; simp at h
  rw [if_neg h3] at h
  rw [if_neg h3, if_neg h3]
  by_cases h4 : 16 < xs.getD 4 0
  · rw [if_pos h4] at h; simp at h
  rw [if_neg h4, if_neg h4]
  exact ⟨(xs.getD 4 0).toNat, by simp only; omega, by omega, by omega, rfl⟩

section
variable {w w' : World} {P S T : Nat → Prop} {v u : Value} {xs : List Int}
/-- What is unpacked, by the program: sections of its own. -/
def UPost (xs : List Int) (w : World) (e : Ending) (w' : World) : Prop :=
  ∃ u ss, e = .returned (.tuple #[u, .int .i64 (unp xs).1]) ∧ ss.map sn = (unp xs).2 ∧ Ps w' (fun i => w.heap.size ≤ i) u ss ∧ Kp No w w'
theorem UPost.bad {x : Int} (h : unp xs = (x, [])) (k : Kp No w w') : UPost xs w (.returned (.tuple #[.slice none 0 0, .int .i64 x])) w' :=
  ⟨.slice none 0 0, [], by rw [h], by rw [h]; rfl, ⟨Rw.nil _ _ _ _ _, fun s hs => by simp at hs⟩, k⟩
theorem Rw.up {α : Type} {n : Nat} {f : α → Nat → Value} {d : α} {Q : Nat → Prop} {ys : List α} (h : Rw n f d w P v ys) (hq : ∀ i, P i → Q i) : Rw n f d w Q v ys := by
  obtain ⟨A, c, rfl, hc, hm, hr⟩ := h
  refine ⟨A, c, rfl, hc, hm, fun h0 => ?_⟩
  obtain ⟨b, o, e, h1, h2, h3⟩ := hr h0
  exact ⟨b, o, e, h1, hq b h2, h3⟩
theorem Ps.up {Q : Nat → Prop} {ss : List Sv} (h : Ps w P v ss) (hq : ∀ i, P i → Q i) : Ps w Q v ss := ⟨h.rw.up hq, fun s hs => ⟨(h.ok s hs).k, (h.ok s hs).b.mono fun i _ hi => hq i hi⟩⟩

theorem unpack_any (ht : Tab w) (h : Byt w S v xs) (hl : xs.length ≤ 100000) : Calls Tryd.prog 16 #[v] w (UPost xs w) := by
  have HT := hid ht
  have HO := hid h
  have HL := hid hl
  have HB := hid (show Bs xs from h.bytes)
  obtain ⟨A, c, rfl, hrest⟩ := h
  obtain ⟨n, hn⟩ : ∃ n, xs.length = n := ⟨_, rfl⟩
  rw [hn] at HO ⊢
  clear hrest ht hl
  obtain ⟨a, ha⟩ : ∃ a, (hd xs).1 = a := ⟨_, rfl⟩
  obtain ⟨x, hx⟩ : ∃ a, (hd xs).2 = a := ⟨_, rfl⟩
  have HA := hid ha
  have HX := hid hx
  by_cases hx0 : x = 0
  · subst hx0
    obtain ⟨m, h1, h2, h3, h4⟩ := unp_good HB.out hx
    have ham : a = (m : Int) := by rw [← ha, h1]
    subst ham
    have H2 := hid h2
    have H3 := hid h3
    have H4 := hid h4
    clear ha hx h1 h2 h3 h4 hn
    go_enter Tryd.func16, Tryd.ntmps16
    go_upto_region 4 with (first
      | (go_at_call 32
         refine (readhead_any HT.out HO.out).mono ?_
         rintro e w1 ⟨rfl, k1⟩
         rw [HA.out, HX.out]
         have K1 := hid k1
         clear k1))
    go_wp2_with fail
    refine (readtable_any (m := m) (HT.out.kp0 K1.out) (HO.out.kp0 K1.out) H3.out H2.out).mono ?_
    rintro e w2 ⟨k2, ⟨g1, rfl⟩ | ⟨g1, g2, rfl⟩ | ⟨g1, g2, u, r, rfl, hu, hr⟩⟩
    · have HU := hid (show unp xs = (2, []) by rw [H4.out, if_pos g1])
      have K2 := hid (K1.out.trans k2)
      clear g1 k2
      go_wp2
      go_ret2
      exact UPost.bad HU.out K2.out
    · have HU := hid (show unp xs = (4, []) by rw [H4.out, if_neg g1, if_pos g2])
      have K2 := hid (K1.out.trans k2)
      clear g1 g2 k2
      go_wp2
      go_ret2
      exact UPost.bad HU.out K2.out
    · have HU := hid (show unp xs = unpRest xs m by rw [H4.out, if_neg g1, if_neg (fun h => h g2)])
      have K2 := hid (K1.out.trans k2)
      have G1 := hid g1
      have HUR := hid hu
      have HRR := hid hr
      clear g1 g2 k2 hu hr
      go_wp2_with (first
        | (go_at_call 34
           refine (readbodies_any (HT.out.kp0 K2.out) HB.out HUR.out HRR.out H2.out (by have := G1.out; omega) HL.out).mono ?_
           rintro e w3 ⟨u3, ss, rfl, hs, hp, k3⟩
           have HS := hid hs
           have HP := hid hp
           have K3 := hid k3
           clear hs hp k3))
      go_ret2
      exact ⟨u3, ss, by rw [HU.out]; rfl, by rw [HU.out]; exact HS.out, HP.out.up fun i hi => Nat.le_trans K2.out.size hi, K2.out.trans K3.out⟩
  · have hne : (x != 0) = true := by rw [bne_iff_ne]; exact hx0
    have HU := hid (unp_bad hx hx0)
    clear ha hx hx0 hn
    go_enter Tryd.func16, Tryd.ntmps16
    go_wp2_with (first
      | (go_at_call 32
         refine (readhead_any HT.out HO.out).mono ?_
         rintro e w1 ⟨rfl, k1⟩
         rw [HA.out, HX.out]
         have K1 := hid k1
         clear k1))
    go_ret2
    exact UPost.bad HU.out K1.out
end
end Go.Proofs.YthhikjgaljkfpaaDoor

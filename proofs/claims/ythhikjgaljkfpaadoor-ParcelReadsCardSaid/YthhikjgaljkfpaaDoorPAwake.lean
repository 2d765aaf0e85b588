/-
  Contract of the chapter's example.
-/
import Derived.Test.YthhikjgaljkfpaaDoorPH
namespace Go.Proofs.YthhikjgaljkfpaaDoor
open Go.RowKit

def onl1 : List Sn := [⟨3, [7]⟩]
theorem can_nil : Can [] := ⟨by simp, rfl, fun s hs => by simp at hs⟩
theorem can_onl : Can onl1 := ⟨by decide, by decide, fun s hs => by
  rw [List.mem_singleton.1 hs]
  decide⟩
theorem image_nil : (image []).length = 13 ∧ (image []).getD 3 0 = 49 ∧ (image []).getD 4 0 = 0 := by
  refine ⟨by rw [image_len]; rfl, ?_, ?_⟩
  · unfold image front; rw [List.append_assoc, List.append_assoc, List.append_assoc]; rfl
  · unfold image front; rw [List.append_assoc, List.append_assoc, List.append_assoc]; rfl
theorem image_onl : (image onl1).length = 21 := by rw [image_len]; rfl

section
variable {w w' : World} {P S T : Nat → Prop} {v u : Value} {xs : List Int}
/-- Where bytes lie. -/
theorem Byt.spot {n : Nat} (h : Byt w P v xs) (hn : xs.length = n) (h0 : 0 < n) : ∃ b o c, v = .slice (some ⟨b, o, none⟩) n c ∧ n ≤ c ∧ c ≤ 9223372036854775807 ∧ ∀ j, j < n → w.cell? ⟨b, o + j, none⟩ = some (.int .u8 (xs.getD j 0)) := by
  subst hn
  obtain ⟨A, c, rfl, hc, hm, _, hr⟩ := h
  unfold maxLen at hm
  obtain ⟨b, o, rfl, _, _, hcell⟩ := hr h0
  exact ⟨b, o, c, rfl, hc, by omega, hcell⟩

set_option maxHeartbeats 1000000 in
theorem pawake_any (ht : Tab w) : Calls Tryd.prog 9 #[] w fun e w' => e = .returned (.bool true) ∧ Kp No w w' := by
  have HT := hid ht
  clear ht
  go_enter Tryd.func9, Tryd.ntmps9
  go_upto_region 2 with (first
    | (go_at_call 11
       refine (pack_is (P := Anyb) (ss := []) HT.out ⟨Rw.nil _ _ _ _ _, fun s hs => by simp at hs⟩ can_nil).mono ?_
       rintro e w1 ⟨u1, rfl, o1, k1⟩
       have B1 := hid (o1.byt (P := Anyb) fun _ _ => trivial)
       have K1 := hid k1
       clear o1 k1))
  have hps : Ps ((w1.alloc (.cells #[.int .u8 7] 5)).alloc (.cells #[.int .i64 3, .slice (some ⟨w1.heap.size, 0, none⟩) 1 1] 42)) Anyb (.slice (some ⟨w1.heap.size + 1, 0, none⟩) 1 1) [⟨3, some ⟨w1.heap.size, 0, none⟩, 1, [7]⟩] := by
    have h1 := Rw.one (w1.alloc (.cells #[.int .u8 7] 5)) 42 ⟨3, some ⟨w1.heap.size, 0, none⟩, 1, [7]⟩
    have hz : (w1.alloc (.cells #[.int .u8 7] 5)).heap.size = w1.heap.size + 1 := by simp
    rw [hz] at h1
    refine ⟨h1, fun s hs => ?_⟩
    rw [List.mem_singleton.1 hs]
    exact ⟨by show I64 3; unfold I64; omega, (Byt.one (P := Anyb) w1 5 7 (by omega) trivial).kp0 ((Kp.refl No _).alloc _)⟩
  have HPS := hid hps
  have K2 := hid ((K1.out.alloc (.cells #[.int .u8 7] 5)).alloc (.cells #[.int .i64 3, .slice (some ⟨w1.heap.size, 0, none⟩) 1 1] 42))
  clear hps
  go_upto_region 4 with (first
    | (go_at_call 11
       refine (pack_is (HT.out.kp0 K2.out) HPS.out can_onl).mono ?_
       rintro e w3 ⟨u3, rfl, o3, k3⟩
       have B3 := hid (o3.byt (P := Anyb) fun _ _ => trivial)
       have K3 := hid (K2.out.trans k3)
       have K13 := hid ((((Kp.refl No w1).alloc (.cells #[.int .u8 7] 5)).alloc (.cells #[.int .i64 3, .slice (some ⟨w1.heap.size, 0, none⟩) 1 1] 42)).trans k3)
       clear o3 k3)
    | (go_at_call 16
       refine (unpack_any (xs := image onl1) (HT.out.kp0 K3.out) B3.out (by rw [image_onl]; omega)).mono ?_
       rintro e w4 ⟨u4, ss, rfl, hs, hp, k4⟩
       have hU : unp (image onl1) = (0, onl1) := unp_image can_onl
       rw [hU] at hs
       rw [hU]
       have HS := hid hs
       have HP := hid hp
       have K4 := hid (K3.out.trans k4)
       have K14 := hid (K13.out.trans k4)
       clear hU hs hp k4))
  obtain ⟨ab, ao, ac, rfl, _, _, acell⟩ := (B1.out.kp0 K14.out).spot (n := 13) (by simpa using image_nil.1) (by omega)
  have a3 := acell 3 (by omega)
  have a4 := acell 4 (by omega)
  rw [show (image (List.map sn [])).getD 3 0 = 49 from image_nil.2.1] at a3
  rw [show (image (List.map sn [])).getD 4 0 = 0 from image_nil.2.2] at a4
  have hs := HS.out
  unfold onl1 at hs
  obtain ⟨t, rfl⟩ := List.length_eq_one_iff.1 (by have := congrArg List.length hs; simpa using this)
  simp only [List.map_cons, List.map_nil, List.cons.injEq, and_true] at hs
  unfold sn at hs
  simp only [Sn.mk.injEq] at hs
  obtain ⟨A4, c4, rfl, _, _⟩ := HP.out.form (n := 1) rfl
  obtain ⟨lb, lo, rfl, ok', d0', d1'⟩ := HP.out.at' (k := 0) (by simp)
  have ok : SvOk w4 _ t := ok'
  have d0 : w4.cell? ⟨lb, lo + 0 * 2, none⟩ = some (.int .i64 t.k) := d0'
  have d1 : w4.cell? ⟨lb, lo + 0 * 2 + 1, none⟩ = some t.bv := d1'
  clear ok' d0' d1'
  rw [hs.1] at d0
  obtain ⟨sb, so, sc, hbv, _, _, scell⟩ := ok.b.spot (n := 1) (by rw [hs.2]; rfl) (by omega)
  have s0 := scell 0 (by omega)
  rw [hs.2] at s0
  rw [hbv] at d1
  simp only [Nat.zero_mul, Nat.add_zero, List.getD_cons_zero] at d0 d1 s0
  clear acell scell ok hs hbv
  go_wp2
  go_ret
  exact ⟨rfl, K4.out⟩
end
end Go.Proofs.YthhikjgaljkfpaaDoor

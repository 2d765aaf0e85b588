/-
  Contract of the document's without.
-/
import Derived.Test.YtggmdgdgljlddaaNRefF
namespace Go.Proofs.Ytggmdgdgljlddaa
open Go.RowKit

theorem usQ : Us Try.prog 27 48 2 16 (.agg #[.int .i64 0, .int .i64 0]) := ⟨by kernel_rfl, by kernel_rfl, by decide, by decide⟩
theorem wo_snoc (L : List (Int × Int)) (id : Int) (y : Int × Int) : wo (L ++ [y]) id = wo L id ++ if y.1 = id then [] else [y] := by
  unfold wo
  rw [List.filter_append]
  by_cases e : y.1 = id <;> simp [e]
section
variable {T : Tre} {D : Int → Nat} {w w' : World} {S P : Nat → Prop} {r : Nat} {v : Value} {L : List (Int × Int)} {x : Int}
set_option maxHeartbeats 1000000 in
set_option maxRecDepth 100000 in
theorem rwithout_any (h : RT w P r v L) (hll : L.length ≤ 1000000) (x : Int) : Calls Try.prog 26 #[.pointer (some ⟨r, 0, none⟩), .int .i64 x] w fun e w' => ∃ u, e = .returned u ∧ Ow w' w.heap.size 48 2 pc u (wo L x) ∧ Kp No w w' := by
  have HRT := hid h
  obtain ⟨A, c, rfl, hc, hm, _⟩ := h.rw
  unfold maxLen at hm
  obtain ⟨n, hn⟩ : ∃ n, L.length = n := ⟨_, rfl⟩
  have HN := hid hn
  rw [hn] at hc HRT hll
  have HCL := hid (fun (w' : World) (kk : Kp No w w') => show w'.cell? ⟨r, 0, none⟩ = some (.slice A n c) from by have := (HRT.out.kp0 kk).hd.cell 0; simpa using this)
  clear h hn
  go_enter Try.func26, Try.ntmps26
  go_wp2_with fail
  go_loopw [5, 6] (fun u i wr => ∃ k : Nat, k ≤ n ∧ i = .int .i64 (k : Int) ∧ Hid (Ow wr w.heap.size 48 2 pc u (wo (L.take k) x)) ∧ Hid (Kp No w wr)) (fun _ i _ => n - (intOf i).toNat)
  case atStart => exact ⟨0, Nat.zero_le _, rfl, hid (Ow.nil _ _ _ _ _), hid (Kp.refl _ _)⟩
  case round =>
    obtain ⟨k, hk, rfl, HO, KW⟩ := hrel
    have cL := HCL.out wr KW.out
    by_cases hkn : k < n
    · have g1 : (k : Int) < (n : Int) := by omega
      have hkl : k < L.length := by rw [HN.out]; exact hkn
      obtain ⟨b, o, rfl⟩ := HRT.out.rw.there (by omega)
      have hc1 := (HRT.out.rw.kp0 KW.out).cell (i := 0) (Kp.refl No wr) hkl (by omega) rfl
      have hc2 := (HRT.out.rw.kp0 KW.out).cell (i := 1) (Kp.refl No wr) hkl (by omega) rfl
      simp only [pc, if_true, Nat.one_ne_zero, if_false, Nat.add_zero, ← Nat.add_assoc] at hc1 hc2
      have HY := hid (take_s L hkl (0, 0))
      obtain ⟨y, hy⟩ : ∃ y, L.getD k (0, 0) = y := ⟨_, rfl⟩
      rw [hy] at hc1 hc2 HY
      obtain ⟨yi, yp⟩ := y
      simp only at hc1 hc2
      have hwk := wrapI (x := (k : Int) + 1) (by unfold I64; omega)
      have HS := hid (wo_snoc (L.take k) x (yi, yp))
      have hlen : (wo (L.take k) x).length ≤ k := by
        have h1 : (wo (L.take k) x).length ≤ (L.take k).length := List.length_filter_le _ _
        rw [List.length_take] at h1
        omega
      have HLE := hid hlen
      clear hy hkl hlen
      by_cases e : yi = x
      · have e1 : (yi != x) = false := by simp [e]
        have HE := hid e
        clear e
        go_wp2_with fail
        go_roundw
        case rel => exact ⟨k + 1, by omega, by go_num, hid (by rw [HY.out, HS.out, if_pos HE.out, List.append_nil]; exact HO.out), KW⟩
        case measure => simp [intOf]; omega
      · have e1 : (yi != x) = true := by simp [e]
        have HE := hid e
        clear e
        have KA := hid (KW.out.alloc (.cells #[.int .i64 yi, .int .i64 yp] 48))
        have OA := hid (HO.out.kp0 ((Kp.refl No wr).alloc (.cells #[.int .i64 yi, .int .i64 yp] 48)))
        have B0 := Blk.new wr 48 #[.int .i64 yi, .int .i64 yp]
        have HZ := hid (And.intro (B0.cell 0) (B0.cell 1))
        clear B0
        go_wp2_with (first
          | (at_builtin
             refine wp_app1 usQ pc_one rfl (.tmp 26) (.tmp 34) rfl (base := w.heap.size) (xs := wo (L.take k) x) (y := (yi, yp)) (by exact OA.out) rfl (by
               intro i hi
               match i, hi with
               | 0, _ => exact HZ.out.1
               | 1, _ => exact HZ.out.2) (by have := HLE.out; omega) (by have := HLE.out; simp only [maxLen]; omega) (by exact KA.out.size) ?_
             intro v5 w5 o5 k5 p5
             have O5 := hid o5
             have K5 := hid (KA.out.grown k5 fun i hi => .inr (OA.out.blk hi).1)
             clear o5 k5 p5))
        go_roundw
        case rel => exact ⟨k + 1, by omega, by go_num, hid (by rw [HY.out, HS.out, if_neg HE.out]; exact O5.out), K5⟩
        case measure => simp [intOf]; omega
    · have hkk : k = n := by omega
      subst hkk
      have hng : ¬ (k : Int) < (k : Int) := by omega
      go_wp2_with fail
      go_ret
      have h1 := HO.out
      rw [List.take_of_length_le (by rw [HN.out]; omega)] at h1
      exact ⟨_, rfl, h1, KW.out⟩
end
end Go.Proofs.Ytggmdgdgljlddaa

/-
  The document's Same, Drop, Has.
-/
import Derived.Test.YtpbnmfoecmhnnaaSP
namespace Go.Proofs.Ytpbnmfoecmhnnaa
open Go.RowKit

section
variable {w w' : World} {g b c n top : Nat} {nd nd' : Nat → Nd} {S : Nat → Prop}

theorem take_snoc (l : List It) {k : Nat} (h : k < l.length) : l.take (k + 1) = l.take k ++ [l.getD k it0] := take_at l it0 h

set_option maxRecDepth 100000 in
theorem same_any {u v : Value} {l : List It} (hu : Rw 2 itc it0 w Anyb u l) (hv : Rw 2 itc it0 w Anyb v l) (hl : l.length ≤ 1000000) :
    Calls Try.prog 29 #[u, v] w fun e w' => e = .returned (.bool true) ∧ Kp No w w' := by
  have HU := hid hu
  have HV := hid hv
  obtain ⟨A, ca, rfl, hca, hma, hra⟩ := hu
  obtain ⟨B, cb, rfl, hcb, hmb, hrb⟩ := hv
  clear hra hrb
  simp only [maxLen] at hma hmb
  go_enter Try.func29, Try.ntmps29
  go_wp2_with fail
  go_loopw [5] (fun i wr => ∃ k : Nat, k ≤ l.length ∧ i = .int .i64 (k : Int) ∧ Hid (Kp No w wr)) (fun i _ => l.length - (intOf i).toNat)
  case atStart => exact ⟨0, by omega, rfl, hid (Kp.refl No w)⟩
  case round =>
    obtain ⟨k, hk, rfl, K⟩ := hrel
    by_cases hlt : k < l.length
    · obtain ⟨ab, ao, rfl⟩ := HU.out.there (by omega)
      obtain ⟨bb, bo, rfl⟩ := HV.out.there (by omega)
      have c0 := HU.out.cell K.out hlt (i := 0) (by omega) rfl
      have c1 := HU.out.cell K.out hlt (i := 1) (by omega) rfl
      have d0 := HV.out.cell K.out hlt (i := 0) (by omega) rfl
      have d1 := HV.out.cell K.out hlt (i := 1) (by omega) rfl
      generalize l.getD k it0 = y at c0 c1 d0 d1
      simp only [itc, Nat.add_zero] at c0 c1 d0 d1
      rw [← Nat.add_assoc] at c1 d1
      go_wp2_with fail
      go_quiet (fail)
      go_wp2_with fail
      go_roundw
      case rel => exact ⟨k + 1, by omega, by go_num, hid (K.out.drewN _)⟩
      case measure => simp [intOf]; omega
    · go_wp2_with fail
      go_ret
      exact ⟨rfl, K.out⟩

theorem it_ext {x y : It} (h1 : x.key = y.key) (h2 : x.id = y.id) : x = y := by
  cases x
  cases y
  simp at h1 h2
  simp [h1, h2]

set_option maxRecDepth 100000 in
set_option maxHeartbeats 1000000 in
theorem refhas_any {v : Value} {l : List It} (hv : Rw 2 itc it0 w Anyb v l) (x : It) (hl : l.length ≤ 1000000) :
    Calls Try.prog 19 #[v, .agg #[.int .i64 x.key, .int .i64 x.id]] w fun e w' => e = .returned (.bool (decide (x ∈ l))) ∧ Kp No w w' := by
  have HV := hid hv
  obtain ⟨B, cb, rfl, hcb, hmb, hrb⟩ := hv
  clear hrb
  simp only [maxLen] at hmb
  go_enter Try.func19, Try.ntmps19
  go_wp2_with fail
  have bx := Blk.new w 24 #[.int .i64 x.key, .int .i64 x.id]
  have k0 := (Kp.refl No w).alloc (.cells #[.int .i64 x.key, .int .i64 x.id] 24)
  generalize w.alloc (.cells #[.int .i64 x.key, .int .i64 x.id] 24) = w0 at bx k0 ⊢
  have BX := hid bx
  have K0 := hid k0
  clear bx k0
  go_loopw [5] (fun i wr => ∃ k : Nat, k ≤ l.length ∧ i = .int .i64 (k : Int) ∧ Hid (Kp No w0 wr) ∧ Hid (x ∉ l.take k)) (fun i _ => l.length - (intOf i).toNat)
  case atStart => exact ⟨0, by omega, rfl, hid (Kp.refl No w0), hid (by simp)⟩
  case round =>
    obtain ⟨k, hk, rfl, K, HN⟩ := hrel
    have B2 := BX.out.kp0 K.out
    have x0 := B2.cell 0
    have x1 := B2.cell 1
    simp at x0 x1
    clear B2
    by_cases hlt : k < l.length
    · obtain ⟨bb, bo, rfl⟩ := HV.out.there (by omega)
      have d0 := HV.out.cell (K0.out.trans K.out) hlt (i := 0) (by omega) rfl
      have d1 := HV.out.cell (K0.out.trans K.out) hlt (i := 1) (by omega) rfl
      have HT := hid (take_snoc l hlt)
      have HM := hid (show l.getD k it0 ∈ l by simp [List.getD, hlt])
      generalize l.getD k it0 = y at d0 d1 HT HM
      simp only [itc, Nat.add_zero] at d0 d1
      rw [← Nat.add_assoc] at d1
      by_cases hkk : y.key = x.key
      · by_cases hii : y.id = x.id
        · have HE := hid (it_ext hkk hii)
          go_wp2_with fail
          go_quiet (fail)
          clear hkk hii
          go_wp2_with fail
          go_ret
          refine ⟨?_, (K0.out.trans K.out).drewN _⟩
          rw [decide_eq_true (show x ∈ l by rw [← HE.out]; exact HM.out)]
          rfl
        · have HE := hid (show x ∉ l.take (k + 1) by
            rw [HT.out]
            simp only [List.mem_append, List.mem_singleton, not_or]
            exact ⟨HN.out, fun e => hii (by rw [e])⟩)
          go_wp2_with fail
          go_quiet (fail)
          clear hkk hii
          go_wp2_with fail
          go_roundw
          case rel => exact ⟨k + 1, by omega, by go_num, hid (K.out.drewN _), HE⟩
          case measure => simp [intOf]; omega
      · have HE := hid (show x ∉ l.take (k + 1) by
          rw [HT.out]
          simp only [List.mem_append, List.mem_singleton, not_or]
          exact ⟨HN.out, fun e => hkk (by rw [e])⟩)
        go_wp2_with fail
        go_quiet (fail)
        clear hkk
        go_wp2_with fail
        go_roundw
        case rel => exact ⟨k + 1, by omega, by go_num, hid (K.out.drewN _), HE⟩
        case measure => simp [intOf]; omega
    · go_wp2_with fail
      go_ret
      refine ⟨?_, K0.out.trans K.out⟩
      rw [decide_eq_false (show x ∉ l by have := HN.out; rwa [List.take_of_length_le (by omega)] at this)]
      rfl

/-- One item, as a slice of its own. -/
theorem Rw.item1 (w : World) (x : It) : Rw 2 itc it0 (w.alloc (.cells #[.int .i64 x.key, .int .i64 x.id] 24)) Anyb (.slice (some ⟨w.heap.size, 0, none⟩) 1 1) [x] := by
  refine ⟨_, _, rfl, by simp, by simp [maxLen], fun _ => ⟨w.heap.size, 0, rfl, by simp, trivial, fun j i hj hi => ?_⟩⟩
  have hj0 : j = 0 := by simpa using hj
  subst hj0
  have hb := Blk.new w 24 #[.int .i64 x.key, .int .i64 x.id]
  match i, hi with
  | 0, _ => exact hb.cell 0
  | 1, _ => exact hb.cell 1
theorem dropL_take (l : List It) (x : It) {k : Nat} (h : k < l.length) : dropL (l.take (k + 1)) x = dropL (l.take k) x ++ (if l.getD k it0 = x then [] else [l.getD k it0]) := by
  rw [take_snoc l h]
  unfold dropL
  rw [List.filter_append]
  congr 1
  generalize l.getD k it0 = y
  by_cases e : y = x
  · subst e
    simp
  · simp [e]
theorem dropL_len (l : List It) (x : It) : (dropL l x).length ≤ l.length := List.length_filter_le _ _

set_option maxRecDepth 100000 in
set_option maxHeartbeats 1000000 in
theorem refdrop_any {v : Value} {l : List It} (hv : Rw 2 itc it0 w Anyb v l) (x : It) (hl : l.length ≤ 1000000) :
    Calls Try.prog 21 #[v, .agg #[.int .i64 x.key, .int .i64 x.id]] w fun e w' => ∃ u, e = .returned u ∧ Kp No w w' ∧ Ow w' w.heap.size 24 2 itc u (dropL l x) := by
  have HV := hid hv
  obtain ⟨B, cb, rfl, hcb, hmb, hrb⟩ := hv
  clear hrb
  simp only [maxLen] at hmb
  go_enter Try.func21, Try.ntmps21
  go_wp2_with fail
  have bx := Blk.new w 24 #[.int .i64 x.key, .int .i64 x.id]
  have k0 := (Kp.refl No w).alloc (.cells #[.int .i64 x.key, .int .i64 x.id] 24)
  generalize w.alloc (.cells #[.int .i64 x.key, .int .i64 x.id] 24) = w0 at bx k0 ⊢
  have BX := hid bx
  have K0 := hid k0
  clear bx k0
  go_loopw [5, 6] (fun o i wr => ∃ k : Nat, k ≤ l.length ∧ i = .int .i64 (k : Int) ∧ Hid (Kp No w0 wr) ∧ Hid (Ow wr w0.heap.size 24 2 itc o (dropL (l.take k) x))) (fun _ i _ => l.length - (intOf i).toNat)
  case atStart => exact ⟨0, by omega, rfl, hid (Kp.refl No w0), hid (by simpa [dropL] using Ow.nil w0 w0.heap.size 24 2 itc)⟩
  case round =>
    obtain ⟨k, hk, rfl, K, HO⟩ := hrel
    have B2 := BX.out.kp0 K.out
    have x0 := B2.cell 0
    have x1 := B2.cell 1
    simp at x0 x1
    clear B2
    by_cases hlt : k < l.length
    · obtain ⟨bb, bo, rfl⟩ := HV.out.there (by omega)
      have d0 := HV.out.cell (K0.out.trans K.out) hlt (i := 0) (by omega) rfl
      have d1 := HV.out.cell (K0.out.trans K.out) hlt (i := 1) (by omega) rfl
      have HT := hid (dropL_take l x hlt)
      have hdl : (dropL (l.take k) x).length ≤ k := Nat.le_trans (dropL_len _ _) (by simp; omega)
      have hks := K.out.size
      generalize l.getD k it0 = y at d0 d1 HT
      simp only [itc, Nat.add_zero] at d0 d1
      rw [← Nat.add_assoc] at d1
      by_cases hyx : y = x
      · rw [if_pos hyx, List.append_nil] at HT
        have hkk : y.key = x.key := by rw [hyx]
        have hii : y.id = x.id := by rw [hyx]
        clear hyx
        go_wp2_with fail
        go_quiet (fail)
        clear hkk hii
        go_wp2_with fail
        go_roundw
        case rel => exact ⟨k + 1, by omega, by go_num, hid (K.out.drewN _), hid (by rw [HT.out]; exact HO.out.kp0 ((Kp.refl No _).drewN _))⟩
        case measure => simp [intOf]; omega
      · rw [if_neg hyx] at HT
        have hnn : ((y.key == x.key) && (y.id == x.id)) = false := by
          cases e1 : y.key == x.key <;> cases e2 : y.id == x.id <;> first | rfl | skip
          exact absurd (it_ext (by simpa using e1) (by simpa using e2)) hyx
        by_cases hkk : y.key = x.key
        · have hii : ¬ y.id = x.id := fun e => hyx (it_ext hkk e)
          clear hyx hnn
          go_wp2_with fail
          go_quiet (fail)
          clear hkk hii
          have hO2 := HO.out.kp0 ((Kp.refl No wr).drewN nq)
          have hsz : (wr.drewN nq).heap.size = wr.heap.size := rfl
          go_wp2_with (first
            | (at_builtin
               refine wp_apps usItem itc_one rfl (.tmp 19) (.tmp 24) rfl (base := w0.heap.size) (xs := dropL (l.take k) x) (ys := [y]) (hO2.kp0 ((Kp.refl No _).alloc _)) (Rw.item1 _ y) (by simp; omega) (by simp [maxLen]; omega) (by simp; omega) ?_
               intro v1 w7 o7 k7))
          have K7 : Kp No w0 w7 := ((K.out.drewN nq).alloc _).step k7 fun i hi h => by omega
          go_roundw
          case rel => exact ⟨k + 1, by omega, by go_num, hid K7, hid (by rw [HT.out]; exact o7)⟩
          case measure => simp [intOf]; omega
        · clear hyx hnn
          go_wp2_with fail
          go_quiet (fail)
          clear hkk
          have hO2 := HO.out.kp0 ((Kp.refl No wr).drewN nq)
          have hsz : (wr.drewN nq).heap.size = wr.heap.size := rfl
          go_wp2_with (first
            | (at_builtin
               refine wp_apps usItem itc_one rfl (.tmp 19) (.tmp 24) rfl (base := w0.heap.size) (xs := dropL (l.take k) x) (ys := [y]) (hO2.kp0 ((Kp.refl No _).alloc _)) (Rw.item1 _ y) (by simp; omega) (by simp [maxLen]; omega) (by simp; omega) ?_
               intro v1 w7 o7 k7))
          have K7 : Kp No w0 w7 := ((K.out.drewN nq).alloc _).step k7 fun i hi h => by omega
          go_roundw
          case rel => exact ⟨k + 1, by omega, by go_num, hid K7, hid (by rw [HT.out]; exact o7)⟩
          case measure => simp [intOf]; omega
    · go_wp2_with fail
      go_ret
      refine ⟨_, rfl, K0.out.trans K.out, ?_⟩
      have := HO.out
      rw [List.take_of_length_le (by omega)] at this
      exact this.lower K0.out.size
end
end Go.Proofs.Ytpbnmfoecmhnnaa

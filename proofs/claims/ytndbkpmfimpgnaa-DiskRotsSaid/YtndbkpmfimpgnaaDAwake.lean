/-
  What is kept behind a crash, sector by sector; the chapter's example.
-/
import Derived.Test.YtndbkpmfimpgnaaDWalk
import Derived.Lib.SlBytesConst
namespace Go.Proofs.Ytndbkpmfimpgnaa
open Go.RowKit

theorem crashed_at {s : Ds} (keep : List Bool) {i : Nat} (hi : i < s.k.length) : (crashed s keep).k.getD i [] = if (s.c (i : Int)).isSome = true ∧ keep.getD (cnt s.c i) false = true then look s i else s.k.getD i [] := by
  have e1 : (crashed s keep).k.getD i [] = look (dropS s keep (waits s).length) i := kept_at (dropS s keep (waits s).length) hi
  rw [e1]
  show (dropAt s keep (waits s).length (i : Int)).getD (s.k.getD i []) = _
  unfold dropAt look
  rw [Int.toNat_natCast]
  cases hc : s.c (i : Int) with
  | none =>
    rw [if_neg (show ¬ ((none : Option (List Int)).isSome = true ∧ keep.getD (cnt s.c i) false = true) by simp)]
    split <;> rfl
  | some l =>
    have hr : cnt s.c i < (waits s).length := by
      have := rank_at (c := s.c) hi (by rw [hc]; rfl)
      unfold waits
      rw [List.length_map]
      exact (List.getElem?_eq_some_iff.1 this).1
    cases hk : keep.getD (cnt s.c i) false with
    | false =>
      rw [if_pos ⟨hr, rfl⟩, if_neg (by simp)]
      rfl
    | true =>
      rw [if_neg (by simp), if_pos ⟨rfl, rfl⟩]
theorem look_crashed {s : Ds} (keep : List Bool) {i : Nat} (hi : i < s.k.length) : look (crashed s keep) i = if (s.c (i : Int)).isSome = true ∧ keep.getD (cnt s.c i) false = true then look s i else s.k.getD i [] := crashed_at keep hi
theorem look_wrote (s : Ds) (i : Nat) (xs : List Int) : look (wrote s i xs) i = pad xs := by
  unfold look wrote
  simp

section
variable {w w' : World} {g b m : Nat} {s : Ds}
theorem byt_two (w : World) (P : Nat → Prop) (t : TypeId) (fr : Nat × Nat) (x y : Int) (hx : 0 ≤ x ∧ x ≤ 255) (hy : 0 ≤ y ∧ y ≤ 255) (hP : P w.heap.size) : Byt (w.alloc (.cells #[.int .u8 x, .int .u8 y] t fr)) P (.slice (some ⟨w.heap.size, 0, none⟩) 2 2) [x, y] := by
  have B := heap_alloc_new w (.cells #[.int .u8 x, .int .u8 y] t fr)
  refine ⟨some ⟨w.heap.size, 0, none⟩, 2, rfl, by simp, by simp [maxLen], by simpa using ⟨hx, hy⟩, fun _ => ⟨w.heap.size, 0, rfl, (Array.getElem?_eq_some_iff.1 B).1, hP, fun j hj => ?_⟩⟩
  rw [Nat.zero_add, cell_of_row _ _ j _ t fr B]
  match j, hj with
  | 0, _ => rfl
  | 1, _ => rfl
theorem run_ab (w : World) : (convert 30 30 (.slice (some ⟨w.heap.size, 0, none⟩) 2 2)).run Try.prog (w.alloc (.cells #[.int .u8 97, .int .u8 98] 5)) = .ok (.slice (some ⟨w.heap.size, 0, none⟩) 2 2) (w.alloc (.cells #[.int .u8 97, .int .u8 98] 5 (2, 3))) :=
  Lib.run_convert_bytes_const (P := Try.prog) w 30 5 #[.int .u8 97, .int .u8 98] 2 2 (by kernel_rfl) (by kernel_rfl)
theorem sl_one (w : World) (P : Nat → Prop) (t : TypeId) (q : Bool) (hP : P w.heap.size) : Sl Value.bool false (w.alloc (.cells #[.bool q] t)) P (.slice (some ⟨w.heap.size, 0, none⟩) 1 1) [q] := by
  have B := Blk.new w t #[.bool q]
  refine ⟨some ⟨w.heap.size, 0, none⟩, 1, rfl, by simp, by simp [maxLen], fun _ => ⟨w.heap.size, 0, rfl, B.lt, hP, fun j hj => ?_⟩⟩
  rw [Nat.zero_add, B.cell]
  match j, hj with
  | 0, _ => rfl

set_option maxHeartbeats 2000000 in
set_option maxRecDepth 100000 in
theorem awake_any (w : World) : Calls Try.prog 7 #[] w fun e w' => e = .returned (.bool true) ∧ Kp No w w' := by
  go_enter Try.func7, Try.ntmps7
  go_wp2_with fail
  refine (newd_any 3 w).mono ?_
  rintro e w1 ⟨g, b, m, rfl, D1, k1, hg, hb, hm⟩
  have h3 : (dsN (hold 3 512).toNat).k.length = 3 := by show (List.replicate (hold 3 512).toNat zs).length = 3; rw [List.length_replicate]; decide
  generalize hs0 : dsN (hold 3 512).toNat = s0 at D1 h3
  have HS0 := hid hs0
  have D1 := hid D1
  have k1 := hid k1
  have H3 := hid h3
  clear hs0 h3
  have hcv1 := run_ab w1
  go_wp2_with fail
  have l1 := D1.out.lts
  have kA := (Kp.refl No w1).alloc (.cells #[.int .u8 97, .int .u8 98] 5 (2, 3))
  refine (write_is (P := fun i => i ≠ g) (D1.out.kp0 kA) (i := 1) (by rw [← HS0.out]; rfl) (by rw [H3.out]; omega) (byt_two w1 _ _ _ 97 98 (by omega) (by omega) (by omega)) (fun h => h rfl) (by simp)).mono ?_
  rintro e w2 ⟨rfl, k2, D2⟩
  have e2 : off (wrote s0 ((1 : Nat) : Int) [97, 98]) = false := by rw [← HS0.out]; rfl
  generalize hs1 : wrote s0 ((1 : Nat) : Int) [97, 98] = s1 at D2 e2
  have h1c : (s1.c ((1 : Nat) : Int)).isSome = true := by rw [← hs1]; simp [wrote]
  have h1k : s1.k = s0.k := by rw [← hs1]; rfl
  have h1r : cnt s1.c 1 = 0 := by rw [← hs1, ← HS0.out]; simp [wrote, cnt, dsN]
  have K2 := hid (show Kp No w w2 from (k1.out.trans kA).step k2 fun i hi e => by rcases e with e | e <;> omega)
  have D2 := hid D2
  clear hcv1 kA k2 hs1
  go_wp2_with fail
  refine (crash_any (P := fun _ => False) (keep := []) D2.out (Sl.nil _ _ _ _) (fun h => h)).mono ?_
  rintro e w3 ⟨⟨v3, rfl⟩, k3, D3⟩
  have L3 := hid (look_crashed (s := s1) [] (i := 1) (by rw [h1k, H3.out]; omega))
  have e3 : off (crashed s1 []) = false := rfl
  have n3 : (crashed s1 []).k.length = 3 := by rw [crashed_len, h1k, H3.out]
  have c3 : ∀ x, (crashed s1 []).c x = none := fun _ => rfl
  generalize crashed s1 [] = s2 at D3 L3 e3 n3 c3
  have K3 := hid (show Kp No w w3 from K2.out.step k3 fun i hi e => by rcases e with e | e | e <;> omega)
  have D3 := hid D3
  have l3 := D3.out.lts
  have HC := hid h1c
  have HR := hid h1r
  have HK1 := hid h1k
  have N3 := hid n3
  have C3 := hid c3
  clear k3 h1c h1r h1k n3 c3
  go_wp2_with fail
  refine (read_is D3.out (i := 1) (by rw [N3.out]; omega) e3).mono ?_
  rintro e w4 ⟨v4, rfl, ⟨q4, rfl, hq4, hq4', B4⟩, k4⟩
  have hz4 : look s2 1 = zs := by
    rw [L3.out, if_neg (by simp), HK1.out, ← HS0.out]
    rfl
  rw [hz4] at B4
  have B4 := hid B4
  have D4 := hid (D3.out.kp0 k4)
  have K4 := hid (K3.out.trans k4)
  have l4 := D4.out.lts
  have hcv2 := run_ab w4
  clear k4 hz4
  go_wp2_with fail
  have kB := (Kp.refl No w4).alloc (.cells #[.int .u8 97, .int .u8 98] 5 (2, 3))
  refine (write_is (P := fun i => i ≠ g) (D4.out.kp0 kB) (i := 1) e3 (by rw [N3.out]; omega) (byt_two w4 _ _ _ 97 98 (by omega) (by omega) (by omega)) (fun h => h rfl) (by simp)).mono ?_
  rintro e w5 ⟨rfl, k5, D5⟩
  have L5 := look_wrote s2 1 [97, 98]
  have e5 : (wrote s2 ((1 : Nat) : Int) [97, 98]).armed = s2.armed := rfl
  have c5 : ((wrote s2 ((1 : Nat) : Int) [97, 98]).c ((1 : Nat) : Int)).isSome = true := by simp [wrote]
  have r5 : cnt (wrote s2 ((1 : Nat) : Int) [97, 98]).c 1 = 0 := by simp [wrote, cnt, C3.out]
  have n5 : (wrote s2 ((1 : Nat) : Int) [97, 98]).k.length = 3 := N3.out
  generalize wrote s2 ((1 : Nat) : Int) [97, 98] = s5 at D5 L5 e5 c5 r5 n5
  have B5 := hid ((B4.out.kp0 kB).kp k5 (fun e => by rcases e with e | e <;> omega))
  have K5 := hid (show Kp No w w5 from (K4.out.trans kB).step k5 fun i hi e => by rcases e with e | e <;> omega)
  have D5 := hid D5
  have L5 := hid L5
  have C5 := hid c5
  have R5 := hid r5
  have N5 := hid n5
  have l5 := D5.out.lts
  clear kB k5 hcv2 c5 r5 n5 e5
  go_wp2_with fail
  have kC := (Kp.refl No w5).alloc (.cells #[.bool true] 4)
  refine (crash_any (P := fun i => i ≠ m) (keep := [true]) (D5.out.kp0 kC) (sl_one w5 _ _ true (by omega)) (fun h => h rfl)).mono ?_
  rintro e w6 ⟨⟨v6, rfl⟩, k6, D6⟩
  have L6 := look_crashed (s := s5) [true] (i := 1) (by rw [N5.out]; omega)
  rw [C5.out, R5.out, if_pos ⟨rfl, rfl⟩, L5.out] at L6
  have e6 : off (crashed s5 [true]) = false := rfl
  have n6 : (crashed s5 [true]).k.length = 3 := by rw [crashed_len, N5.out]
  generalize crashed s5 [true] = s6 at D6 L6 e6 n6
  have B6 := hid ((B5.out.kp0 kC).kp k6 (fun e => by rcases e with e | e | e <;> omega))
  have K6 := hid (show Kp No w w6 from (K5.out.trans kC).step k6 fun i hi e => by rcases e with e | e | e <;> omega)
  have D6 := hid D6
  have L6 := hid L6
  have N6 := hid n6
  clear kC k6 n6
  go_wp2_with fail
  refine (read_is D6.out (i := 1) (by rw [N6.out]; omega) e6).mono ?_
  rintro e w7 ⟨v7, rfl, ⟨q7, rfl, hq7, hq7', B7⟩, k7⟩
  rw [L6.out] at B7
  have b0 := (B6.out.kp0 k7).cell 0
  rw [List.getElem?_toArray, sc_at (by rw [Sec.zs.len]; omega), zs_at] at b0
  have a0 := B7.cell 0
  have a1 := B7.cell 1
  have a2 := B7.cell 2
  rw [List.getElem?_toArray, sc_at (by rw [pad_len (by simp)]; omega)] at a0 a1 a2
  simp [pad] at a0 a1 a2
  have K7 := hid (K6.out.trans k7)
  clear B7 k7
  go_wp2
  go_ret
  exact ⟨rfl, K7.out⟩
end
end Go.Proofs.Ytndbkpmfimpgnaa

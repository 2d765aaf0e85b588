/-
  A store in memory; contracts of its small functions: Age, Image, Room, begin, number, sector, takeHead.
-/
import Derived.Test.YtgfkbkonelphaaaGreatDoorSlB
import Derived.Test.YtgfkbkonelphaaaGreatDoorSlF
import Derived.Test.YtgfkbkonelphaaaGreatDoorZeros
namespace Go.Proofs.YtgfkbkonelphaaaGreatDoor
open Go.RowKit

/-- A head, by value. -/
def hag (a : Nat) (q : Bool) (iv : Value) : Value := .agg #[.int .i64 (a : Int), .bool q, iv]
/-- A block of bytes. -/
def Tu (w : World) (i : Nat) : Prop := ∃ cs fr, w.heap[i]? = some (.cells cs 5 fr)
/-- Bytes that lie in such a block, of Q. -/
def Byu (w : World) (Q : Nat → Prop) (v : Value) (xs : List Int) : Prop := Byt w (fun i => Q i ∧ Tu w i) v xs
section
variable {w w' : World} {Q Q' S : Nat → Prop} {v : Value} {xs : List Int} {base : Nat}
theorem Tu.kp {i : Nat} (h : Tu w i) (k : Kp S w w') (hs : ¬ S i) : Tu w' i := by
  obtain ⟨cs, fr, e⟩ := h
  exact ⟨cs, fr, (k.block i (Array.getElem?_eq_some_iff.1 e).1 hs).trans e⟩
theorem Byu.byt (h : Byu w Q v xs) : Byt w Q v xs := Byt.mono h fun _ _ hi => hi.1
theorem Byu.kp (h : Byu w Q v xs) (k : Kp S w w') (hs : ∀ i, Q i → Tu w i → ¬ S i) : Byu w' Q v xs := by
  obtain ⟨A, c, rfl, h1, h2, h3, h4⟩ := h
  refine ⟨A, c, rfl, h1, h2, h3, fun h0 => ?_⟩
  obtain ⟨b, o, rfl, hb, ⟨hq, ht⟩, hc⟩ := h4 h0
  have hns := hs b hq ht
  exact ⟨b, o, rfl, Nat.lt_of_lt_of_le hb k.size, ⟨hq, ht.kp k hns⟩, fun j hj => (k.cell (p := ⟨b, o + j, none⟩) hb hns).trans (hc j hj)⟩
theorem Byu.kp0 (h : Byu w Q v xs) (k : Kp No w w') : Byu w' Q v xs := h.kp k fun _ _ _ h => h
theorem Byu.mono (h : Byu w Q v xs) (hq : ∀ i, i < w.heap.size → Q i → Q' i) : Byu w Q' v xs := Byt.mono h fun i hi hp => ⟨hq i hi hp.1, hp.2⟩
theorem Byu.nil (w : World) (Q : Nat → Prop) : Byu w Q (.slice none 0 0) [] := Byt.nil _ _
theorem Byu.take {A : Option Addr} {c n : Nat} (h : Byu w Q (.slice A n c) xs) (k : Nat) (hk : k ≤ xs.length) : Byu w Q (.slice A k c) (xs.take k) := Byt.take h k hk
theorem Own.byu (h : Own w base 5 v xs) (hq : ∀ i, base ≤ i → Q i) : Byu w Q v xs := by
  have hb := h.byt (P := fun i => base ≤ i) fun _ h => h
  rcases h.1.2 with ⟨rfl, h0⟩ | ⟨g, cap, cur, rfl, hbg, hg, _⟩
  · have : xs = [] := List.eq_nil_of_length_eq_zero h0
    subst this
    exact Byu.nil _ _
  · obtain ⟨A, c, he, h1, h2, h3, h4⟩ := hb
    refine ⟨A, c, he, h1, h2, h3, fun h0 => ?_⟩
    obtain ⟨b, o, hA, hb1, hb2, hc⟩ := h4 h0
    refine ⟨b, o, hA, hb1, ⟨hq b hb2, ?_⟩, hc⟩
    subst hA
    injection he with e1 _ _
    injection e1 with e1
    injection e1 with e1 _ _
    subst e1
    exact ⟨cur, _, hg⟩
end
/-- In none of the store's blocks. -/
def Stn (q g b m : Nat) : Nat → Prop := fun i => i ≠ q ∧ i ≠ g ∧ i ≠ b ∧ i ≠ m
/-- A store at q, over the disk at g (its blocks b and m). -/
structure Str (w : World) (q g b m h a : Nat) (has : Bool) (img : List Int) : Prop where
  hd : ∃ iv, Blk w q 66 #[.int .i64 (a : Int), .bool has, iv, .pointer (some ⟨g, 0, none⟩), .int .i64 (h : Int)] ∧ Byu w (Stn q g b m) iv img
  age : a ≤ 1099511627776
  len : img.length ≤ 64 * h
  no : has = false → img = []
  hh : h ≤ 255
  qg : q ≠ g
  qb : q ≠ b
  qm : q ≠ m

section
variable {w w' : World} {P S : Nat → Prop} {q g b m h a : Nat} {has : Bool} {img : List Int} {v : Value}
theorem Str.kp (hs : Str w q g b m h a has img) (k : Kp S w w') (h1 : ¬ S q) (h2 : ∀ i, Stn q g b m i → ¬ S i) : Str w' q g b m h a has img := by
  obtain ⟨iv, hb, hy⟩ := hs.hd
  exact ⟨⟨iv, hb.kp k h1, hy.kp k fun i hi _ => h2 i hi⟩, hs.age, hs.len, hs.no, hs.hh, hs.qg, hs.qb, hs.qm⟩
theorem Str.kpt (hs : Str w q g b m h a has img) (k : Kp S w w') (h1 : ¬ S q) (h2 : ∀ i, Stn q g b m i → Tu w i → ¬ S i) : Str w' q g b m h a has img := by
  obtain ⟨iv, hb, hy⟩ := hs.hd
  exact ⟨⟨iv, hb.kp k h1, hy.kp k h2⟩, hs.age, hs.len, hs.no, hs.hh, hs.qg, hs.qb, hs.qm⟩
theorem Str.kp0 (hs : Str w q g b m h a has img) (k : Kp No w w') : Str w' q g b m h a has img := hs.kp k (fun h => h) fun _ _ h => h
theorem Str.kpd (hs : Str w q g b m h a has img) (k : Kp S w w') (h1 : ∀ i, S i → DB g b m i) : Str w' q g b m h a has img :=
  hs.kp k (fun e => by rcases h1 _ e with e | e | e; exact hs.qg e; exact hs.qb e; exact hs.qm e) fun i hi e => by
    rcases h1 _ e with e | e | e
    · exact hi.2.1 e
    · exact hi.2.2.1 e
    · exact hi.2.2.2 e
theorem Str.lt (hs : Str w q g b m h a has img) : q < w.heap.size := hs.hd.choose_spec.1.lt
theorem Str.cells (hs : Str w q g b m h a has img) : ∃ A c, w.cell? ⟨q, 0, none⟩ = some (.int .i64 (a : Int)) ∧ w.cell? ⟨q, 1, none⟩ = some (.bool has) ∧ w.cell? ⟨q, 2, none⟩ = some (.slice A img.length c) ∧ w.cell? ⟨q, 3, none⟩ = some (.pointer (some ⟨g, 0, none⟩)) ∧ w.cell? ⟨q, 4, none⟩ = some (.int .i64 (h : Int)) ∧ Byt w (Stn q g b m) (.slice A img.length c) img := by
  obtain ⟨iv, hb, hyu⟩ := hs.hd
  have hy := hyu.byt
  have hy' := hy
  obtain ⟨A, c, rfl, _⟩ := hy
  exact ⟨A, c, hb.cell 0, hb.cell 1, hb.cell 2, hb.cell 3, hb.cell 4, hy'⟩

theorem age_any (hs : Str w q g b m h a has img) : Calls Tryz.prog 26 #[.pointer (some ⟨q, 0, none⟩)] w fun e w' => e = .returned (.int .i64 (a : Int)) ∧ w' = w := by
  obtain ⟨A, c, c0, c1, c2, c3, c4, _⟩ := hs.cells
  clear hs
  go_enter Tryz.func26, Tryz.ntmps26
  go_wp2
  go_ret
  exact ⟨rfl, rfl⟩
theorem room_any (hs : Str w q g b m h a has img) : Calls Tryz.prog 21 #[.pointer (some ⟨q, 0, none⟩)] w fun e w' => e = .returned (.int .i64 ((64 * h : Nat) : Int)) ∧ w' = w := by
  obtain ⟨A, c, c0, c1, c2, c3, c4, _⟩ := hs.cells
  have hh := hs.hh
  have hw := wrapI (x := (h : Int) * 64) (by unfold I64; omega)
  clear hs
  go_enter Tryz.func21, Tryz.ntmps21
  go_wp2
  go_ret
  refine ⟨?_, rfl⟩
  first | rfl | (rw [show ((64 * h : Nat) : Int) = (h : Int) * 64 by omega]; rfl)
theorem begin_any (hs : Str w q g b m h a has img) {k : Nat} (hk : k < 2) : Calls Tryz.prog 55 #[.pointer (some ⟨q, 0, none⟩), .int .i64 (k : Int)] w fun e w' => e = .returned (.int .i64 ((2 + k * h : Nat) : Int)) ∧ w' = w := by
  obtain ⟨A, c, c0, c1, c2, c3, c4, _⟩ := hs.cells
  have hh := hs.hh
  have hkh : k * h ≤ 255 := by rcases (show k = 0 ∨ k = 1 by omega) with rfl | rfl <;> omega
  obtain ⟨x, hx⟩ : ∃ x, k * h = x := ⟨_, rfl⟩
  have hx2 : (k : Int) * (h : Int) = (x : Int) := by rw [← hx]; simp
  have hw := wrapI (x := (x : Int)) (by unfold I64; omega)
  have hw2 := wrapI (x := 2 + (x : Int)) (by unfold I64; omega)
  rw [← hx2] at hw hw2
  have HX := hid hx
  have HX2 := hid hx2
  rw [hx] at hkh ⊢
  clear hs hx hx2
  go_enter Tryz.func55, Tryz.ntmps55
  go_wp2
  go_ret
  refine ⟨?_, rfl⟩
  first
    | rfl
    | (show Ending.returned (.int .i64 (2 + (k : Int) * (h : Int))) = _; rw [HX2.out]; rfl)
theorem hnum_any (a : Nat) (has : Bool) (v : Value) (w : World) (ha : a ≤ 1099511627777) : Calls Tryz.prog 49 #[hag a has v] w fun e w' => e = .returned (.int .i64 ((a % 2 : Nat) : Int)) ∧ Kp No w w' := by
  unfold hag
  have h1 : (a : Int).tmod 2 = ((a % 2 : Nat) : Int) := by rw [Int.tmod_eq_emod_of_nonneg (by omega)]; omega
  go_enter Tryz.func49, Tryz.ntmps49
  go_wp2
  go_ret
  exact ⟨by simp, (Kp.refl No _).alloc _⟩
theorem image_any (hs : Str w q g b m h a has img) : Calls Tryz.prog 25 #[.pointer (some ⟨q, 0, none⟩)] w fun e w' => ∃ u, e = .returned (.tuple #[u, .bool has]) ∧ Own w' w.heap.size 5 u img ∧ Kp No w w' := by
  obtain ⟨A, c, c0, c1, c2, c3, c4, hy⟩ := hs.cells
  have hh := hs.hh
  have hl := hs.len
  have hq := hs.lt
  have HY := hid hy
  have HC1 := hid (show ∀ w', Kp No w w' → w'.cell? ⟨q, 1, none⟩ = some (.bool has) from fun w' k => (k.cell (p := ⟨q, 1, none⟩) hq fun h => h).trans c1)
  clear hs hy
  go_enter Tryz.func25, Tryz.ntmps25
  go_upto_region 1 with fail
  go_region_with (first
    | (go_at_call 35
       refine (clone_any (by exact HY.out.kp0 ((Kp.refl No w).drewN _)) (by omega)).mono ?_
       rintro e w1 ⟨u, rfl, o1, k1⟩
       have k2 := ((Kp.refl No w).drewN _).trans k1
       have c1' := HC1.out _ k2
       have O1 := hid o1
       have K1 := hid k2
       clear o1 k1 k2))
  all_goals
    go_wp2_with fail
    go_ret2
    exact ⟨_, rfl, O1.out.lower (by simp), K1.out⟩

set_option maxRecDepth 100000 in
set_option maxHeartbeats 1000000 in
/-- A head as it is written. -/
theorem sector_any (ht : Tab w) (h : Byt w P v img) (ha : a ≤ 1099511627776) (hl : img.length ≤ 100000) (hf : has = false → img = []) :
    Calls Tryz.prog 52 #[hag a has v] w fun e w' => ∃ u, e = .returned u ∧ Own w' w.heap.size 5 u (hsec a has img) ∧ Kp No w w' := by
  have HT := hid ht
  have HO := hid h
  have HL := hid hl
  obtain ⟨ln, hln⟩ : ∃ ln, img.length = ln := ⟨_, rfl⟩
  have HLn := hid hln
  obtain ⟨A, c, rfl, hc, hm, _, _⟩ := h
  rw [hln] at hc hl
  rw [hln] at HO ⊢
  have h8 : hw 8 = 8 := rfl
  have h1 : hw 1 = 1 := rfl
  have h4 : hw 4 = 4 := rfl
  have q1 : IntKind.u64.wrap (a : Int) = (a : Int) := by rw [u64w]; omega
  have q2 : IntKind.u64.wrap (ln : Int) = (ln : Int) := by rw [u64w]; omega
  obtain ⟨k, hk⟩ : ∃ k, ck img = k := ⟨_, rfl⟩
  have hkl := ck_lt img
  rw [hk] at hkl
  have q3 : IntKind.u64.wrap (k : Int) = (k : Int) := by rw [u64w]; omega
  have HK := hid hk
  obtain ⟨hn, hhn⟩ : ∃ hn : Int, hn = if has then 1 else 0 := ⟨_, rfl⟩
  have hn01 : 0 ≤ hn ∧ hn ≤ 1 := by rw [hhn]; split <;> omega
  have HDn := hid (show dg hn 1 = [hn] by rw [dg, dg, show hn % 256 = hn by omega])
  have HHn := hid hhn
  have HC := hid (show ([68, 80, 90, 83] ++ dg (a : Int) 8 ++ [hn] ++ dg (ln : Int) 4 ++ dg (k : Int) 4 : List Int) = hcore a has img by
    unfold hcore
    rw [hhn, hln]
    cases has with
    | true => rw [hk]; rfl
    | false =>
      have : k = 0 := by rw [← hk, hf rfl]; decide
      rw [this]
      rfl)
  obtain ⟨k2, hk2⟩ : ∃ k, ck (hcore a has img) = k := ⟨_, rfl⟩
  have hk2l := ck_lt (hcore a has img)
  rw [hk2] at hk2l
  have q4 : IntKind.u64.wrap (k2 : Int) = (k2 : Int) := by rw [u64w]; omega
  have HK2 := hid hk2
  have K0 := hid ((Kp.refl No w).alloc (.cells #[.int .i64 (a : Int), .bool has, .slice A ln c] 64))
  have B0 := hid (Blk.new w 64 #[.int .i64 (a : Int), .bool has, .slice A ln c])
  have hsz := hid <| show (w.alloc (.cells #[.int .i64 (a : Int), .bool has, .slice A ln c] 64)).heap.size = w.heap.size + 1 by simp
  clear ht hln hk hhn hk2 hf
  unfold hag
  obtain ⟨w0, hw0⟩ : ∃ w0, w.alloc (.cells #[.int .i64 (a : Int), .bool has, .slice A ln c] 64) = w0 := ⟨_, rfl⟩
  rw [hw0] at K0 B0 hsz
  have c0 : w0.cell? ⟨w.heap.size, 0, none⟩ = some (.int .i64 (a : Int)) := B0.out.cell 0
  have c1 : w0.cell? ⟨w.heap.size, 1, none⟩ = some (.bool has) := B0.out.cell 1
  have c2 : w0.cell? ⟨w.heap.size, 2, none⟩ = some (.slice A ln c) := B0.out.cell 2
  have c0' : (w0.alloc (.cells #[.int .u8 68, .int .u8 80, .int .u8 90, .int .u8 83] 5 (4, 5))).cell? ⟨w.heap.size, 0, none⟩ = some (.int .i64 (a : Int)) := (B0.out.kp0 ((Kp.refl No w0).alloc _)).cell 0
  have kc := Lib.run_convert_bytes_const (P := Tryz.prog) w0 36 5 #[.int .u8 68, .int .u8 80, .int .u8 90, .int .u8 83] 4 4 Tryz.underlying36 Tryz.underlying5
  cases has
  all_goals
    have hn1 := HHn.out
    simp at hn1
    subst hn1
    go_enter Tryz.func52, Tryz.ntmps52
    go_upto_region 1 with fail
    go_upto_region 5 with (first
      | (go_at_call 66
         refine (put_any (S := Anyb) _ [68, 80, 90, 83] _ 8 _ (lit_byt (P := Anyb) w0 5 (4, 5) trivial [68, 80, 90, 83] (by decide) (by simp)) (by omega) (by simp)).mono ?_
         rintro e w1 ⟨u1, rfl, o1, k1⟩
         rw [h8] at o1
         have K1 := hid ((K0.out.alloc (.cells #[.int .u8 68, .int .u8 80, .int .u8 90, .int .u8 83] 5 (4, 5))).trans k1)
         have KB1 := hid (((Kp.refl No w0).alloc (.cells #[.int .u8 68, .int .u8 80, .int .u8 90, .int .u8 83] 5 (4, 5))).trans k1)
         have B1 := hid (B0.out.kp0 KB1.out)
         have O1 := hid (o1.byt (P := Anyb) fun _ _ => trivial)
         have d2 : w1.cell? ⟨w.heap.size, 2, none⟩ = some (.slice A ln c) := B1.out.cell 2
         clear o1 k1 c0 c0' c1 c2 kc hw0))
    go_upto_region 6 with (first
      | (go_at_call 66
         with_reducible refine (put_any (S := Anyb) _ _ 0 1 _ O1.out (by omega) (by simp [dg_len])).mono ?_
         rintro e w2 ⟨u2, rfl, o2, k2⟩
         rw [h1, HDn.out] at o2
         have K2 := hid (K1.out.trans k2)
         have B2 := hid (B1.out.kp0 k2)
         have O2 := hid (o2.byt (P := Anyb) fun _ _ => trivial)
         have e2 : w2.cell? ⟨w.heap.size, 2, none⟩ = some (.slice A ln c) := B2.out.cell 2
         clear o2 k2 d2)
      | (go_at_call 66
         with_reducible refine (put_any (S := Anyb) _ _ 1 1 _ O1.out (by omega) (by simp [dg_len])).mono ?_
         rintro e w2 ⟨u2, rfl, o2, k2⟩
         rw [h1, HDn.out] at o2
         have K2 := hid (K1.out.trans k2)
         have B2 := hid (B1.out.kp0 k2)
         have O2 := hid (o2.byt (P := Anyb) fun _ _ => trivial)
         have e2 : w2.cell? ⟨w.heap.size, 2, none⟩ = some (.slice A ln c) := B2.out.cell 2
         clear o2 k2 d2))
    go_upto_region 7 with (first
      | (go_at_call 66
         with_reducible refine (put_any (S := Anyb) _ _ (ln : Int) 4 _ O2.out (by omega) (by simp [dg_len])).mono ?_
         rintro e w3 ⟨u3, rfl, o3, k3⟩
         rw [h4] at o3
         have K3 := hid (K2.out.trans k3)
         have B3 := hid (B2.out.kp0 k3)
         have O3 := hid (o3.byt (P := Anyb) fun _ _ => trivial)
         have d3 : w3.cell? ⟨w.heap.size, 2, none⟩ = some (.slice A ln c) := B3.out.cell 2
         clear o3 k3 e2))
    go_upto_region 8 with (first
      | (go_at_call 67
         refine (of_any _ img _ (HO.out.kp0 K3.out) (HT.out.kp0 K3.out)).mono ?_
         rintro e wx ⟨rfl, rfl⟩
         rw [HK.out])
      | (go_at_call 66
         with_reducible refine (put_any (S := Anyb) _ _ (k : Int) 4 _ O3.out (by omega) (by simp [dg_len])).mono ?_
         rintro e w4 ⟨u4, rfl, o4, k4⟩
         rw [h4, HC.out] at o4
         have K4 := hid (K3.out.trans k4)
         have O4 := hid (o4.byt (P := Anyb) fun _ _ => trivial)
         clear o4 k4 d3))
    go_upto_region 9 with (first
      | (go_at_call 67
         refine (of_any _ _ _ O4.out (HT.out.kp0 K4.out)).mono ?_
         rintro e wx ⟨rfl, rfl⟩
         rw [HK2.out])
      | (go_at_call 66
         with_reducible refine (put_any (S := Anyb) _ _ (k2 : Int) 4 _ O4.out (by omega) (by rw [hcore_len]; omega)).mono ?_
         rintro e w5 ⟨u5, rfl, o5, k5⟩
         rw [h4] at o5
         have K5 := hid (K4.out.trans k5)
         have O5 := hid (o5.lower K4.out.size)
         obtain ⟨A5, c5, rfl⟩ := o5.formN (n := 25) (by rw [List.length_append, hcore_len, dg_len])
         clear o5 k5))
    go_wp2_with (first
      | (at_builtin
         refine wp_appz isU8 (tn := 3) (kn := .i64) (by kernel_rfl) rfl (.tmp 33) (.tmp 36) rfl (base := w.heap.size) (k := 39) rfl rfl O5.out (by rw [List.length_append, hcore_len, dg_len]; omega) K5.out.size ?_
         intro v6 w6 o6 k6
         have O6 := hid o6
         have K6 := hid (K5.out.step k6 fun i hi h => by omega)
         clear o6 k6))
    go_ret
    refine ⟨_, rfl, ?_, K6.out⟩
    have o6 := O6.out
    rw [← HK2.out] at o6
    exact o6
end
end Go.Proofs.YtgfkbkonelphaaaGreatDoor

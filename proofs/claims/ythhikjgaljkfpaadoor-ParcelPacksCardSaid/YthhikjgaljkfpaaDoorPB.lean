/-
  Contracts of the program's small functions of parcel: row's put, seal, takeRow, sealed, HasPrefix.
-/
import Derived.Test.YthhikjgaljkfpaaDoorPA
import Derived.Test.YthhikjgaljkfpaaDoorLeE
import Derived.Test.YthhikjgaljkfpaaDoorFill
import Derived.Test.YthhikjgaljkfpaaDoorApp
namespace Go.Proofs.YthhikjgaljkfpaaDoor
open Go.RowKit

theorem dg_num (xs : List Int) (h : Bs xs) : dg (num xs) xs.length = xs := by
  induction xs with
  | nil => rfl
  | cons x r ih =>
    have hx := h x (by simp)
    have hr := ih fun y hy => h y (List.mem_cons_of_mem _ hy)
    rw [List.length_cons, dg, num, show (x + 256 * num r) % 256 = x by omega, show (x + 256 * num r) / 256 = num r by omega, hr]
theorem num_ck4 (xs : List Int) : num (ck4 xs) = (ck xs : Nat) := by
  unfold ck4
  rw [num_dg, show pw 4 = 4294967296 from rfl]
  have := ck_lt xs
  omega
theorem ck_word {xs ys : List Int} (hy : Bs ys) (h4 : ys.length = 4) : num ys = (ck xs : Nat) ↔ ys = ck4 xs := by
  constructor
  · intro h
    have := dg_num ys hy
    rw [h4, h] at this
    exact this.symm
  · rintro rfl
    exact num_ck4 xs
theorem num4 {ys : List Int} (hy : Bs ys) (h4 : ys.length = 4) : 0 ≤ num ys ∧ num ys < 4294967296 := by
  have := num_bd ys hy
  rw [h4, show pw 4 = 4294967296 from rfl] at this
  exact this
theorem str_iff {xs ys : List Int} (h : Bs xs) (h' : Bs ys) : (strOfNums xs).toList = (strOfNums ys).toList ↔ xs = ys := by
  constructor
  · intro e1
    rw [ByteArray.toList_eq, strOfNums_data, ByteArray.toList_eq, strOfNums_data] at e1
    have back : ∀ zs : List Int, Bs zs → (zs.map fun n => UInt8.ofNat n.toNat).map (fun x : UInt8 => (x.toNat : Int)) = zs := fun zs hz => by
      rw [List.map_map]
      conv => rhs; rw [← List.map_id zs]
      refine List.map_congr_left fun y hy => ?_
      have := hz y hy
      simp only [Function.comp_apply, id_eq, UInt8.toNat_ofNat']
      omega
    rw [← back xs h, e1, back ys h']
  · rintro rfl
    rfl
theorem u32w (x : Int) : IntKind.u32.wrap x = x % 4294967296 := by simp [IntKind.wrap, IntKind.bits, IntKind.signed]

/-- A row of the table, in memory. -/
def rc (e : En) : Nat → Value
  | 0 => .int .i64 e.k
  | 1 => .int .i64 (e.n : Int)
  | _ => .int .u32 (num e.c)
def en0 : En := ⟨0, 0, []⟩
theorem rc_one (e : En) (i : Nat) : (rc e i).oneCell' = true := by
  unfold rc
  split <;> rfl

section
variable {w w' : World} {P S T : Nat → Prop} {v u : Value} {xs ys : List Int}
theorem seal_any {base : Nat} (ht : Tab w) (hown : Own w base 5 v xs) (hb : base ≤ w.heap.size) (hl : xs.length ≤ 100000000) :
    Calls Tryd.prog 22 #[v] w fun e w' => ∃ u, e = .returned u ∧ Own w' base 5 u (xs ++ ck4 xs) ∧ Kp (fun k => base ≤ k) w w' := by
  have HT := hid ht
  have HO := hid hown
  have HB := hid (hown.byt (P := Anyb) fun _ _ => trivial)
  have HL := hid hl
  have HB0 := hid hb
  obtain ⟨A, c, rfl⟩ := hown.form
  obtain ⟨q, hq⟩ : ∃ q, ck xs = q := ⟨_, rfl⟩
  have hql := ck_lt xs
  rw [hq] at hql
  have HQ := hid hq
  have h4 : hw 4 = 4 := rfl
  have q64 : IntKind.u64.wrap (q : Int) = (q : Int) := by rw [u64w]; omega
  clear hq ht hown hl hb
  go_enter Tryd.func22, Tryd.ntmps22
  go_wp2_with (first
    | (go_at_call 24
       refine (of_any _ xs _ HB.out HT.out).mono ?_
       rintro e w1 ⟨rfl, rfl⟩
       rw [HQ.out])
    | (go_at_call 23
       refine (put_any (S := Anyb) _ [] _ 4 _ (Byt.nil _ _) (by omega) (by simp)).mono ?_
       rintro e w2 ⟨u2, rfl, o2, k2⟩
       rw [List.nil_append, h4, ← HQ.out] at o2
       have HU2 := hid (o2.byt (P := Anyb) fun _ _ => trivial)
       have HK2 := hid k2
       have HW2 := hid (HO.out.kp k2 fun _ _ h => h)
       clear o2 k2)
    | (at_builtin
       refine wp_app isU8 rfl (.tmp 3) (.tmp 7) rfl (base := base) (xs := xs) (ys := ck4 xs) (by exact HW2.out) (by exact HU2.out) (by rw [ck4_len]; have := HL.out; omega) (by have := HK2.out.size; have := HB0.out; omega) ?_
       intro v3 w3 o3 k3
       have HW3 := hid o3
       have HK3 := hid ((HK2.out.all (S := fun k => base ≤ k)).step k3 fun _ _ h => h)
       clear o3 k3))
  go_ret
  exact ⟨_, rfl, HW3.out, HK3.out⟩

theorem rowput_any {base : Nat} {k : Int} {n c : Nat} (hown : Own w base 5 v xs) (hb : base ≤ w.heap.size) (hl : xs.length ≤ 100000000) (hk : 0 ≤ k ∧ k ≤ 255) (hn : n ≤ 65535) (hc : c < 4294967296) :
    Calls Tryd.prog 25 #[.agg #[.int .i64 k, .int .i64 (n : Int), .int .u32 (c : Int)], v] w fun e w' => ∃ u, e = .returned u ∧ Own w' base 5 u (xs ++ (k :: (dg (n : Int) 2 ++ dg (c : Int) 4))) ∧ Kp (fun k => base ≤ k) w w' := by
  have HL := hid hl
  have HB0 := hid hb
  have HF0 := hid (Off.own hown)
  obtain ⟨A, cp, rfl⟩ := hown.form
  have h1 : hw 1 = 1 := rfl
  have h2 : hw 2 = 2 := rfl
  have h4 : hw 4 = 4 := rfl
  have q1 : IntKind.u64.wrap k = k := by rw [u64w]; omega
  have q2 : IntKind.u64.wrap (n : Int) = (n : Int) := by rw [u64w]; omega
  have q3 : IntKind.u64.wrap (c : Int) = (c : Int) := by rw [u64w]; omega
  have HD := hid (show dg k 1 = [k] by rw [dg, dg, show k % 256 = k by omega])
  obtain ⟨d2, hd2⟩ : ∃ d, dg (n : Int) 2 = d := ⟨_, rfl⟩
  obtain ⟨d4, hd4⟩ : ∃ d, dg (c : Int) 4 = d := ⟨_, rfl⟩
  obtain ⟨R, hR⟩ : ∃ R, xs ++ (k :: (d2 ++ d4)) = R := ⟨_, rfl⟩
  rw [hd2, hd4, hR]
  have HD2 := hid hd2
  have HD4 := hid hd4
  have HL2 := hid (show d2.length = 2 by rw [← hd2, dg_len])
  have HL4 := hid (show d4.length = 4 by rw [← hd4, dg_len])
  have HR := hid (show xs ++ [k] ++ d2 ++ d4 = R by rw [← hR]; simp [List.append_assoc])
  clear hd2 hd4 hR
  have K0 := hid ((Kp.refl (fun i => base ≤ i) w).alloc (.cells #[.int .i64 k, .int .i64 (n : Int), .int .u32 (c : Int)] 50))
  have HX := hid (hown.alloc (.cells #[.int .i64 k, .int .i64 (n : Int), .int .u32 (c : Int)] 50))
  have B0 := hid (Blk.new w 50 #[.int .i64 k, .int .i64 (n : Int), .int .u32 (c : Int)])
  have HS0 := hid (show (w.alloc (.cells #[.int .i64 k, .int .i64 (n : Int), .int .u32 (c : Int)] 50)).heap.size = w.heap.size + 1 by simp)
  clear hown hl hb
  go_enter Tryd.func25, Tryd.ntmps25
  go_upto_region 2 with (first
    | (go_at_call 23
       refine (put_any (S := Anyb) _ [] _ 1 _ (Byt.nil _ _) (by omega) (by simp)).mono ?_
       rintro e wp1 ⟨u2, rfl, o2, k2⟩
       rw [List.nil_append, h1, HD.out] at o2
       have HU1 := hid (o2.byt (P := Anyb) fun _ _ => trivial)
       have HKp1 := hid (K0.out.trans k2.all)
       have HWp1 := hid (HX.out.kp k2 fun _ _ h => h)
       have HBp1 := hid (B0.out.kp0 k2)
       clear o2 k2)
    | (at_builtin
       refine wp_app2 isU8 rfl (.tmp 5) (.tmp 9) rfl (base := base) (xs := xs) (ys := [k]) (by exact HWp1.out) (by exact HU1.out) (by have := HL.out; simp; omega) (by have := HKp1.out.size; have := HB0.out; omega) ?_
       intro va1 wa1 o3 k3 f3
       have HWa1 := hid o3
       have HFa1 := hid (HF0.out.app HBp1.out.lt f3)
       have HBa1 := hid (HBp1.out.kp k3 fun h => HF0.out _ h rfl)
       have HKa1 := hid (HKp1.out.step k3 fun i hi h => HWp1.out.at_ i h)
       have cc1 : wa1.cell? ⟨w.heap.size, 1, none⟩ = some (.int .i64 (n : Int)) := HBa1.out.cell 1
       clear o3 k3 f3))
  go_upto_region 3 with (first
    | (go_at_call 23
       refine (put_any (S := Anyb) _ [] _ 2 _ (Byt.nil _ _) (by omega) (by simp)).mono ?_
       rintro e wp2 ⟨u2, rfl, o2, k2⟩
       rw [List.nil_append, h2, HD2.out] at o2
       have HU2 := hid (o2.byt (P := Anyb) fun _ _ => trivial)
       have HKp2 := hid (HKa1.out.trans k2.all)
       have HWp2 := hid (HWa1.out.kp k2 fun _ _ h => h)
       have HBp2 := hid (HBa1.out.kp0 k2)
       clear o2 k2)
    | (at_builtin
       refine wp_app2 isU8 rfl (.tmp 11) (.tmp 15) rfl (base := base) (xs := xs ++ [k]) (ys := d2) (by exact HWp2.out) (by exact HU2.out) (by have := HL.out; have := HL2.out; have := HL4.out; simp; omega) (by have := HKp2.out.size; have := HB0.out; omega) ?_
       intro va2 wa2 o3 k3 f3
       have HWa2 := hid o3
       have HFa2 := hid (HFa1.out.app HBp2.out.lt f3)
       have HBa2 := hid (HBp2.out.kp k3 fun h => HFa1.out _ h rfl)
       have HKa2 := hid (HKp2.out.step k3 fun i hi h => HWp2.out.at_ i h)
       have cc2 : wa2.cell? ⟨w.heap.size, 2, none⟩ = some (.int .u32 (c : Int)) := HBa2.out.cell 2
       clear o3 k3 f3))
  go_wp2_with (first
    | (go_at_call 23
       refine (put_any (S := Anyb) _ [] _ 4 _ (Byt.nil _ _) (by omega) (by simp)).mono ?_
       rintro e wp3 ⟨u2, rfl, o2, k2⟩
       rw [List.nil_append, h4, HD4.out] at o2
       have HU3 := hid (o2.byt (P := Anyb) fun _ _ => trivial)
       have HKp3 := hid (HKa2.out.trans k2.all)
       have HWp3 := hid (HWa2.out.kp k2 fun _ _ h => h)
       have HBp3 := hid (HBa2.out.kp0 k2)
       clear o2 k2)
    | (at_builtin
       refine wp_app2 isU8 rfl (.tmp 17) (.tmp 21) rfl (base := base) (xs := xs ++ [k] ++ d2) (ys := d4) (by exact HWp3.out) (by exact HU3.out) (by have := HL.out; have := HL2.out; have := HL4.out; simp; omega) (by have := HKp3.out.size; have := HB0.out; omega) ?_
       intro va3 wa3 o3 k3 f3
       have HWa3 := hid o3
       have HFa3 := hid (HFa2.out.app HBp3.out.lt f3)
       have HBa3 := hid (HBp3.out.kp k3 fun h => HFa2.out _ h rfl)
       have HKa3 := hid (HKp3.out.step k3 fun i hi h => HWp3.out.at_ i h)
       clear o3 k3 f3))
  go_ret
  have := HWa3.out
  rw [HR.out] at this
  exact ⟨_, rfl, this, HKa3.out⟩
end
end Go.Proofs.YthhikjgaljkfpaaDoor

/-
  LeD LeE: texts laid into one.
-/
import Derived.Test.YtggmdgdgljlddaaGreatDoorLeB
import Derived.WalkMore

/-
  Contracts: New, next, Part, Left, Fail, End of the code's reader.
-/
namespace Go.Proofs.YtggmdgdgljlddaaGreatDoor
open Go.RowKit

/-- A reader of the code in block g: the bytes that are left, how it failed; they lie in a block below that one. -/
def Rd (w : World) (g : Nat) (xs : List Int) (e : Int) : Prop :=
  ∃ v, Blk w g 138 #[v, .int .i64 e] ∧ Byt w (fun i => i < g) v xs

section
variable {w w' : World} {g : Nat} {xs : List Int} {e : Int}
theorem Rd.kp {S : Nat → Prop} (h : Rd w g xs e) (k : Kp S w w') (hs : ∀ i, i < w.heap.size → ¬ S i) : Rd w' g xs e := by
  obtain ⟨v, hb, hv⟩ := h
  exact ⟨v, hb.kp k (hs g hb.lt), (hv.old.kp k fun i hi => hs i hi.2).mono fun i _ hi => hi.1⟩
theorem Rd.kpg {S : Nat → Prop} (h : Rd w g xs e) (k : Kp S w w') (hs : ∀ i, i ≤ g → ¬ S i) : Rd w' g xs e := by
  obtain ⟨v, hb, hv⟩ := h
  exact ⟨v, hb.kp k (hs g (Nat.le_refl _)), hv.kp k fun i hi => hs i (Nat.le_of_lt hi)⟩
theorem Rd.lt (h : Rd w g xs e) : g < w.heap.size := h.choose_spec.1.lt
end

theorem new_any {S : Nat → Prop} (v : Value) (xs : List Int) (w : World) (hv : Byt w S v xs) (hl : xs.length ≤ 100000) :
    Calls Tryz.prog 61 #[v] w fun e w' => ∃ g, e = .returned (.pointer (some ⟨g, 0, none⟩)) ∧ w.heap.size ≤ g ∧ Rd w' g xs 0 ∧ Kp No w w' := by
  go_enter Tryz.func61, Tryz.ntmps61
  go_wp2_with fail
  refine (own_any v xs _ hv hl).mono ?_
  rintro e w1 ⟨u, rfl, hown, hkp⟩
  obtain ⟨A, c, rfl⟩ := hown.form
  have HO := hid hown
  have HK := hid hkp
  clear hown hkp hv
  go_wp2
  go_ret
  have hown := HO.out
  have hkp := HK.out
  refine ⟨w1.heap.size, rfl, hkp.size, ⟨_, Blk.new _ _ _, ?_⟩, hkp.alloc _⟩
  exact ((hown.byt (P := Anyb) fun _ _ => trivial).old.kp ((Kp.refl No _).alloc _) fun _ _ h => h).mono fun i _ hi => by have := hi.2; omega

/-- What is read, left, and wrong, of so many bytes. -/
def nxP (xs : List Int) (e m : Int) : List Int := if e = 0 ∧ 0 ≤ m ∧ m ≤ xs.length then xs.take m.toNat else []
def nxR (xs : List Int) (e m : Int) : List Int := if e = 0 ∧ 0 ≤ m ∧ m ≤ xs.length then xs.drop m.toNat else xs
def nxE (xs : List Int) (e m : Int) : Int := if e = 0 then (if m < 0 then 1 else if (xs.length : Int) < m then 2 else 0) else e

theorem next_any (g : Nat) (xs : List Int) (e m : Int) (w : World) (h : Rd w g xs e) :
    Calls Tryz.prog 123 #[.pointer (some ⟨g, 0, none⟩), .int .i64 m] w fun r w' =>
      ∃ u, r = .returned u ∧ Byt w' (fun i => i < g) u (nxP xs e m) ∧ Rd w' g (nxR xs e m) (nxE xs e m) ∧ Kp (Only g) w w' := by
  have HR := hid h
  obtain ⟨v, hb, hv⟩ := h
  have HV := hid hv
  have HB := hid hb
  obtain ⟨A, c, rfl, hc, hm, hx, hr⟩ := hv
  have c0 : w.cell? ⟨g, 0, none⟩ = some (.slice A xs.length c) := hb.cell 0
  have c1 : w.cell? ⟨g, 1, none⟩ = some (.int .i64 e) := hb.cell 1
  have f0 : w.frozen? ⟨g, 0, none⟩ = false := hb.frozen 0
  have f1 : w.frozen? ⟨g, 1, none⟩ = false := hb.frozen 1
  have HA := hid hr
  clear hr hx hb
  unfold maxLen at hm
  by_cases he : e = 0
  · subst he
    have hne : ((0 : Int) != 0) = false := by decide
    by_cases hneg : m < 0
    · go_enter Tryz.func123, Tryz.ntmps123
      go_wp2
      go_ret
      have k1 : Kp (Only g) w (w.setCell ⟨g, 1, none⟩ (.int .i64 1)) := Kp.set1 _ _ _ _
      have p1 : nxP xs 0 m = [] := by simp [nxP]; omega
      have p2 : nxR xs 0 m = xs := by simp [nxR]; omega
      have p3 : nxE xs 0 m = 1 := by simp [nxE, hneg]
      rw [p1, p2, p3]
      exact ⟨_, rfl, Byt.nil _ _, ⟨_, HB.out.put 1 _, HV.out.kp k1 fun i hi h => by have : i = g := h; omega⟩, k1⟩
    · by_cases hbig : (xs.length : Int) < m
      · go_enter Tryz.func123, Tryz.ntmps123
        go_wp2
        go_ret
        have k1 : Kp (Only g) w (w.setCell ⟨g, 1, none⟩ (.int .i64 2)) := Kp.set1 _ _ _ _
        have p1 : nxP xs 0 m = [] := by simp [nxP]; omega
        have p2 : nxR xs 0 m = xs := by simp [nxR]; omega
        have p3 : nxE xs 0 m = 2 := by simp [nxE, hbig]; omega
        rw [p1, p2, p3]
        exact ⟨_, rfl, Byt.nil _ _, ⟨_, HB.out.put 1 _, HV.out.kp k1 fun i hi h => by have : i = g := h; omega⟩, k1⟩
      · go_enter Tryz.func123, Tryz.ntmps123
        go_wp2
        all_goals
          go_ret
          have p1 : nxP xs 0 m = xs.take m.toNat := by rw [nxP, if_pos ⟨rfl, by omega, by omega⟩]
          have p2 : nxR xs 0 m = xs.drop m.toNat := by rw [nxR, if_pos ⟨rfl, by omega, by omega⟩]
          have p3 : nxE xs 0 m = 0 := by rw [nxE, if_pos rfl, if_neg (by omega), if_neg (by omega)]
          rw [p1, p2, p3]
        · have hcm : c = m.toNat := by assumption
          have hV := HV.out
          have hB := HB.out
          rw [hcm] at hV hB
          have k1 : Kp (Only g) w (w.setCell ⟨g, 0, none⟩ (.slice A (xs.length - m.toNat) 0)) := Kp.set1 _ _ _ _
          refine ⟨_, rfl, (hV.take m.toNat (by omega)).kp k1 fun i hi h => by have : i = g := h; omega, ⟨_, hB.put 0 _, ?_⟩, k1⟩
          have e1 : xs.drop m.toNat = [] := List.drop_of_length_le (by omega)
          have e2 : xs.length - m.toNat = 0 := by omega
          rw [e1, e2]
          exact Byt.empty _ _ _ _ (by unfold maxLen; omega)
        · have k1 : Kp (Only g) w (w.setCell ⟨g, 0, none⟩ (.slice (A.map fun x => x.add m.toNat) (xs.length - m.toNat) (c - m.toNat))) := Kp.set1 _ _ _ _
          exact ⟨_, rfl, (HV.out.take m.toNat (by omega)).kp k1 fun i hi h => by have : i = g := h; omega, ⟨_, HB.out.put 0 _, (HV.out.drop m.toNat (by omega)).kp k1 fun i hi h => by have : i = g := h; omega⟩, k1⟩
  · have hne : (e != 0) = true := by simp [he]
    go_enter Tryz.func123, Tryz.ntmps123
    go_wp2
    go_ret
    have p1 : nxP xs e m = [] := by simp [nxP, he]
    have p2 : nxR xs e m = xs := by simp [nxR, he]
    have p3 : nxE xs e m = e := by simp [nxE, he]
    rw [p1, p2, p3]
    exact ⟨_, rfl, Byt.nil _ _, HR.out, Kp.refl _ _⟩

theorem part_any (g : Nat) (xs : List Int) (e m : Int) (w : World) (h : Rd w g xs e) (hl : xs.length ≤ 100000) :
    Calls Tryz.prog 99 #[.pointer (some ⟨g, 0, none⟩), .int .i64 m] w fun r w' =>
      ∃ u, r = .returned u ∧ Own w' w.heap.size 5 u (nxP xs e m) ∧ Rd w' g (nxR xs e m) (nxE xs e m) ∧ Kp (Only g) w w' := by
  have hp : (nxP xs e m).length ≤ 100000 := by unfold nxP; split <;> simp; omega
  go_enter Tryz.func99, Tryz.ntmps99
  go_wp2_with fail
  refine (next_any g xs e m _ h).mono ?_
  rintro r w1 ⟨u, rfl, hu, hr, hk⟩
  have HU := hid hu
  have HR := hid hr
  have HK := hid hk
  clear hu hr hk h
  go_wp2_with fail
  refine (own_any u _ _ HU.out hp).mono ?_
  rintro r w2 ⟨v, rfl, hv, hk2⟩
  have HV := hid hv
  have HK2 := hid hk2
  clear hv hk2
  go_wp2_with fail
  go_ret
  exact ⟨v, rfl, HV.out.lower HK.out.size, HR.out.kp HK2.out fun _ _ h => h, HK.out.trans HK2.out.all⟩

theorem left_any (g : Nat) (xs : List Int) (e : Int) (w : World) (h : Rd w g xs e) :
    Calls Tryz.prog 62 #[.pointer (some ⟨g, 0, none⟩)] w fun r w' => r = .returned (.int .i64 xs.length) ∧ w = w' := by
  obtain ⟨v, hb, A, c, rfl, hc, hm, hx, hr⟩ := h
  have c0 : w.cell? ⟨g, 0, none⟩ = some (.slice A xs.length c) := hb.cell 0
  clear hb hx hr
  go_enter Tryz.func62, Tryz.ntmps62
  go_wp2
  go_ret
  exact ⟨rfl, rfl⟩

/-- What is wrong at the end. -/
def enE (n : Nat) (e : Int) : Int := if e = 0 then (if n = 0 then 0 else 3) else e

theorem end_any (g : Nat) (xs : List Int) (e : Int) (w : World) (h : Rd w g xs e) :
    Calls Tryz.prog 100 #[.pointer (some ⟨g, 0, none⟩)] w fun r w' => r = .returned (.int .i64 (enE xs.length e)) ∧ w = w' := by
  obtain ⟨v, hb, A, c, rfl, hc, hm, hx, hr⟩ := h
  have c0 : w.cell? ⟨g, 0, none⟩ = some (.slice A xs.length c) := hb.cell 0
  have c1 : w.cell? ⟨g, 1, none⟩ = some (.int .i64 e) := hb.cell 1
  clear hb hx hr
  obtain ⟨n, hn⟩ : ∃ n, xs.length = n := ⟨_, rfl⟩
  rw [hn] at c0 hc ⊢
  clear hn
  by_cases he : e = 0
  · subst he
    have hne : ((0 : Int) != 0) = false := by decide
    by_cases h0 : n = 0
    · subst h0
      have hp : ¬ ((0 : Nat) : Int) > 0 := by omega
      go_enter Tryz.func100, Tryz.ntmps100
      go_wp2
      go_ret
      exact ⟨rfl, rfl⟩
    · have hp : 0 < (n : Int) := by omega
      have hz : enE n 0 = 3 := by simp [enE, h0]
      have HZ := hid hz
      clear hz
      go_enter Tryz.func100, Tryz.ntmps100
      go_wp2
      go_ret
      rw [HZ.out]
      exact ⟨rfl, rfl⟩
  · have hne : (e != 0) = true := by simp [he]
    have hz : enE n e = e := by simp [enE, he]
    have HZ := hid hz
    clear hz
    go_enter Tryz.func100, Tryz.ntmps100
    go_wp2
    go_ret
    rw [HZ.out]
    exact ⟨rfl, rfl⟩
end Go.Proofs.YtggmdgdgljlddaaGreatDoor

/-
  Contract: Take of the code's reader.
-/
namespace Go.Proofs.YtggmdgdgljlddaaGreatDoor
open Go.RowKit

theorem take_any (g : Nat) (xs : List Int) (e x : Int) (w : World) (h : Rd w g xs e) :
    Calls Tryz.prog 97 #[.pointer (some ⟨g, 0, none⟩), .int .i64 x] w fun r w' =>
      r = .returned (.int .u64 (num (nxP xs e (hw x)))) ∧ Rd w' g (nxR xs e (hw x)) (nxE xs e (hw x)) ∧ Kp (Only g) w w' := by
  have hh := hw_bd x
  have hlen : (nxP xs e (hw x)).length ≤ 8 := by unfold nxP; split <;> simp; omega
  obtain ⟨m, hm⟩ : ∃ m, hw x = m := ⟨_, rfl⟩
  have HM := hid hm
  rw [hm] at hh hlen ⊢
  clear hm
  obtain ⟨ys, hys⟩ : ∃ ys, nxP xs e m = ys := ⟨_, rfl⟩
  have HY := hid hys
  rw [hys] at hlen ⊢
  clear hys
  have H := hid h
  clear h
  go_enter Tryz.func97, Tryz.ntmps97
  go_wp2_with fail
  refine wp_scope_pass 0 (fun a' w' => ∃ (j : Nat) (n : Int) (A : Option Addr) (c : Nat) (u8 u9 u10 u11 u12 u13 u14 u15 u16 u17 u18 u19 u20 u21 u22 u23 u24 u25 u26 u27 : Value), a' = { tmps := #[.pointer (some ⟨g, 0, none⟩), .int .i64 x, undef, undef, .int .u64 0, .slice A ys.length c, .int .u64 n, .int .i64 ((j : Int) - 1), u8, u9, u10, u11, u12, u13, u14, u15, u16, u17, u18, u19, u20, u21, u22, u23, u24, u25, u26, u27], defers := [] } ∧ j ≤ ys.length ∧ Hid (num (ys.drop j) = n) ∧
      Hid (Byt w' (fun i => i < g) (.slice A ys.length c) ys ∧ Rd w' g (nxR xs e m) (nxE xs e m) ∧ Kp (Only g) w w')) (fun a' _ => (intOf (a'.tmps.getD 7 undef) + 1).toNat) rfl ?_ ?_
  · rintro a' w' ⟨j, n, A, c, u8, u9, u10, u11, u12, u13, u14, u15, u16, u17, u18, u19, u20, u21, u22, u23, u24, u25, u26, u27, rfl, hj, HN, HH⟩
    have hb := HH.out.1
    obtain ⟨A', c', he, hc, hmx, hx, hr⟩ := hb
    injection he with e1 _ e3
    subst e1 e3
    by_cases hj0 : 0 < j
    · obtain ⟨b, o, rfl, hblk, hg, hcell⟩ := hr (by omega)
      obtain ⟨i, rfl⟩ : ∃ i, j = i + 1 := ⟨j - 1, by omega⟩
      have c1 := hcell i (by omega)
      have hbd := hx (ys.getD i 0) (by simp [List.getD, List.getElem?_eq_getElem (show i < ys.length by omega)])
      obtain ⟨y, hy⟩ : ∃ y, ys.getD i 0 = y := ⟨_, rfl⟩
      rw [hy] at c1 hbd
      have HYi := hid hy
      clear hy hcell hr hx
      have ei : (((i + 1 : Nat) : Int) - 1) = (i : Int) := by omega
      rw [ei]
      clear ei
      have hi0 : (0 : Int) ≤ (i : Int) := by omega
      have hil : (i : Int) < (ys.length : Int) := by omega
      go_wp2
      go_step3
      have hst := take_round ys i (by omega) (by omega) HH.out.1.bytes
      rw [HN.out, HYi.out] at hst
      refine ⟨rfl, ⟨i, _, _, c, _, _, _, _, _, _, _, _, _, _, _, _, _, _, _, _, _, _, _, _, rfl, by omega, hid hst.symm, HH⟩, ?_⟩
      simp [intOf]
    · have : j = 0 := by omega
      subst this
      go_wp2
      simp only [Exit.jump]
      go_ret
      have := HN.out
      rw [List.drop_zero] at this
      rw [this]
      exact ⟨rfl, HH.out.2⟩
  · intro pass
    go_wp2_with (first
      | (go_at_call 66; refine (hold_any _ _).mono ?_; rintro e w' ⟨rfl, rfl⟩; rw [HM.out])
      | (go_at_call 123; refine (next_any g xs e m _ H.out).mono ?_; rintro r w1 ⟨u, rfl, hu⟩; rw [HY.out] at hu; have HU := hid hu; obtain ⟨A, c, rfl, _⟩ := hu.1; clear hu))
    go_step3
    have go_on := ‹∀ (a : Act) (w : World), Code.wp _ _ _ a w → _›
    refine go_on _ _ (pass _ _ ⟨ys.length, 0, A, c, _, _, _, _, _, _, _, _, _, _, _, _, _, _, _, _, _, _, _, _, rfl, Nat.le_refl _, hid (by rw [List.drop_length]; rfl), HU⟩)
end Go.Proofs.YtggmdgdgljlddaaGreatDoor

/-
  Contracts: New, next, Part, Left, Fail, End of the code's reader.
-/
import Derived.Test.YteficflfmbecbaaDoorLeB
namespace Go.Proofs.YteficflfmbecbaaDoor
open Go.RowKit

/-- A reader of the code in block g: the bytes that are left, how it failed; they lie in a block below that one. -/
def Rd (w : World) (g : Nat) (xs : List Int) (e : Int) : Prop :=
  ∃ v, Blk w g 105 #[v, .int .i64 e] ∧ Byt w (fun i => i < g) v xs

section
variable {w w' : World} {g : Nat} {xs : List Int} {e : Int}
theorem Rd.kp {S : Nat → Prop} (h : Rd w g xs e) (k : Kp S w w') (hs : ∀ i, i < w.heap.size → ¬ S i) : Rd w' g xs e := by
  obtain ⟨v, hb, hv⟩ := h
  exact ⟨v, hb.kp k (hs g hb.lt), (hv.old.kp k fun i hi => hs i hi.2).mono fun i _ hi => hi.1⟩
theorem Rd.kpg {S : Nat → Prop} (h : Rd w g xs e) (k : Kp S w w') (hs : ∀ i, i ≤ g → ¬ S i) : Rd w' g xs e := by
  obtain ⟨v, hb, hv⟩ := h
  exact ⟨v, hb.kp k (hs g (Nat.le_refl _)), hv.kp k fun i hi => hs i (Nat.le_of_lt hi)⟩
theorem Rd.lt (h : Rd w g xs e) : g < w.heap.size := h.choose_spec.1.lt
end

theorem new_any {S : Nat → Prop} (v : Value) (xs : List Int) (w : World) (hv : Byt w S v xs) (hl : xs.length ≤ 100000) :
    Calls Tryd.prog 55 #[v] w fun e w' => ∃ g, e = .returned (.pointer (some ⟨g, 0, none⟩)) ∧ w.heap.size ≤ g ∧ Rd w' g xs 0 ∧ Kp No w w' := by
  go_enter Tryd.func55, Tryd.ntmps55
  go_wp2_with fail
  refine (own_any v xs _ hv hl).mono ?_
  rintro e w1 ⟨u, rfl, hown, hkp⟩
  obtain ⟨A, c, rfl⟩ := hown.form
  have HO := hid hown
  have HK := hid hkp
  clear hown hkp hv
  go_wp2
  go_ret
  have hown := HO.out
  have hkp := HK.out
  refine ⟨w1.heap.size, rfl, hkp.size, ⟨_, Blk.new _ _ _, ?_⟩, hkp.alloc _⟩
  exact ((hown.byt (P := Anyb) fun _ _ => trivial).old.kp ((Kp.refl No _).alloc _) fun _ _ h => h).mono fun i _ hi => by have := hi.2; omega

/-- What is read, left, and wrong, of so many bytes. -/
def nxP (xs : List Int) (e m : Int) : List Int := if e = 0 ∧ 0 ≤ m ∧ m ≤ xs.length then xs.take m.toNat else []
def nxR (xs : List Int) (e m : Int) : List Int := if e = 0 ∧ 0 ≤ m ∧ m ≤ xs.length then xs.drop m.toNat else xs
def nxE (xs : List Int) (e m : Int) : Int := if e = 0 then (if m < 0 then 1 else if (xs.length : Int) < m then 2 else 0) else e

theorem next_any (g : Nat) (xs : List Int) (e m : Int) (w : World) (h : Rd w g xs e) :
    Calls Tryd.prog 64 #[.pointer (some ⟨g, 0, none⟩), .int .i64 m] w fun r w' =>
      ∃ u, r = .returned u ∧ Byt w' (fun i => i < g) u (nxP xs e m) ∧ Rd w' g (nxR xs e m) (nxE xs e m) ∧ Kp (Only g) w w' := by
  have HR := hid h
  obtain ⟨v, hb, hv⟩ := h
  have HV := hid hv
  have HB := hid hb
  obtain ⟨A, c, rfl, hc, hm, hx, hr⟩ := hv
  have c0 : w.cell? ⟨g, 0, none⟩ = some (.slice A xs.length c) := hb.cell 0
  have c1 : w.cell? ⟨g, 1, none⟩ = some (.int .i64 e) := hb.cell 1
  have f0 : w.frozen? ⟨g, 0, none⟩ = false := hb.frozen 0
  have f1 : w.frozen? ⟨g, 1, none⟩ = false := hb.frozen 1
  have HA := hid hr
  clear hr hx hb
  unfold maxLen at hm
  by_cases he : e = 0
  · subst he
    have hne : ((0 : Int) != 0) = false := by decide
    by_cases hneg : m < 0
    · go_enter Tryd.func64, Tryd.ntmps64
      go_wp2
      go_ret
      have k1 : Kp (Only g) w (w.setCell ⟨g, 1, none⟩ (.int .i64 1)) := Kp.set1 _ _ _ _
      have p1 : nxP xs 0 m = [] := by simp [nxP]; omega
      have p2 : nxR xs 0 m = xs := by simp [nxR]; omega
      have p3 : nxE xs 0 m = 1 := by simp [nxE, hneg]
      rw [p1, p2, p3]
      exact ⟨_, rfl, Byt.nil _ _, ⟨_, HB.out.put 1 _, HV.out.kp k1 fun i hi h => by have : i = g := h; omega⟩, k1⟩
    · by_cases hbig : (xs.length : Int) < m
      · go_enter Tryd.func64, Tryd.ntmps64
        go_wp2
        go_ret
        have k1 : Kp (Only g) w (w.setCell ⟨g, 1, none⟩ (.int .i64 2)) := Kp.set1 _ _ _ _
        have p1 : nxP xs 0 m = [] := by simp [nxP]; omega
        have p2 : nxR xs 0 m = xs := by simp [nxR]; omega
        have p3 : nxE xs 0 m = 2 := by simp [nxE, hbig]; omega
        rw [p1, p2, p3]
        exact ⟨_, rfl, Byt.nil _ _, ⟨_, HB.out.put 1 _, HV.out.kp k1 fun i hi h => by have : i = g := h; omega⟩, k1⟩
      · go_enter Tryd.func64, Tryd.ntmps64
        go_wp2
        all_goals
          go_ret
          have p1 : nxP xs 0 m = xs.take m.toNat := by rw [nxP, if_pos ⟨rfl, by omega, by omega⟩]
          have p2 : nxR xs 0 m = xs.drop m.toNat := by rw [nxR, if_pos ⟨rfl, by omega, by omega⟩]
          have p3 : nxE xs 0 m = 0 := by rw [nxE, if_pos rfl, if_neg (by omega), if_neg (by omega)]
          rw [p1, p2, p3]
        · have hcm : c = m.toNat := by assumption
          have hV := HV.out
          have hB := HB.out
          rw [hcm] at hV hB
          have k1 : Kp (Only g) w (w.setCell ⟨g, 0, none⟩ (.slice A (xs.length - m.toNat) 0)) := Kp.set1 _ _ _ _
          refine ⟨_, rfl, (hV.take m.toNat (by omega)).kp k1 fun i hi h => by have : i = g := h; omega, ⟨_, hB.put 0 _, ?_⟩, k1⟩
          have e1 : xs.drop m.toNat = [] := List.drop_of_length_le (by omega)
          have e2 : xs.length - m.toNat = 0 := by omega
          rw [e1, e2]
          exact Byt.empty _ _ _ _ (by unfold maxLen; omega)
        · have k1 : Kp (Only g) w (w.setCell ⟨g, 0, none⟩ (.slice (A.map fun x => x.add m.toNat) (xs.length - m.toNat) (c - m.toNat))) := Kp.set1 _ _ _ _
          exact ⟨_, rfl, (HV.out.take m.toNat (by omega)).kp k1 fun i hi h => by have : i = g := h; omega, ⟨_, HB.out.put 0 _, (HV.out.drop m.toNat (by omega)).kp k1 fun i hi h => by have : i = g := h; omega⟩, k1⟩
  · have hne : (e != 0) = true := by simp [he]
    go_enter Tryd.func64, Tryd.ntmps64
    go_wp2
    go_ret
    have p1 : nxP xs e m = [] := by simp [nxP, he]
    have p2 : nxR xs e m = xs := by simp [nxR, he]
    have p3 : nxE xs e m = e := by simp [nxE, he]
    rw [p1, p2, p3]
    exact ⟨_, rfl, Byt.nil _ _, HR.out, Kp.refl _ _⟩

theorem part_any (g : Nat) (xs : List Int) (e m : Int) (w : World) (h : Rd w g xs e) (hl : xs.length ≤ 100000) :
    Calls Tryd.prog 56 #[.pointer (some ⟨g, 0, none⟩), .int .i64 m] w fun r w' =>
      ∃ u, r = .returned u ∧ Own w' w.heap.size 5 u (nxP xs e m) ∧ Rd w' g (nxR xs e m) (nxE xs e m) ∧ Kp (Only g) w w' := by
  have hp : (nxP xs e m).length ≤ 100000 := by unfold nxP; split <;> simp; omega
  go_enter Tryd.func56, Tryd.ntmps56
  go_wp2_with fail
  refine (next_any g xs e m _ h).mono ?_
  rintro r w1 ⟨u, rfl, hu, hr, hk⟩
  have HU := hid hu
  have HR := hid hr
  have HK := hid hk
  clear hu hr hk h
  go_wp2_with fail
  refine (own_any u _ _ HU.out hp).mono ?_
  rintro r w2 ⟨v, rfl, hv, hk2⟩
  have HV := hid hv
  have HK2 := hid hk2
  clear hv hk2
  go_wp2_with fail
  go_ret
  exact ⟨v, rfl, HV.out.lower HK.out.size, HR.out.kp HK2.out fun _ _ h => h, HK.out.trans HK2.out.all⟩

/-- What is wrong at the end. -/
def enE (n : Nat) (e : Int) : Int := if e = 0 then (if n = 0 then 0 else 3) else e

end Go.Proofs.YteficflfmbecbaaDoor

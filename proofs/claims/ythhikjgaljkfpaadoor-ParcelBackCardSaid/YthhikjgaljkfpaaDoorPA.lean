/-
  Contracts of the program's small functions of parcel: isLong, Find's closure, IndexFunc, ContainsFunc, rise, Clone, Find.
-/
import Derived.Test.YthhikjgaljkfpaaDoorPUnp
import Derived.Laws.Cover3
namespace Go.Proofs.YthhikjgaljkfpaaDoor
open Go.RowKit

section
variable {w w' : World} {P S : Nat → Prop} {s : Sv} {v : Value} {ss : List Sv}
def sag (s : Sv) : Value := .agg #[.int .i64 s.k, s.bv]
def long (s : Sv) : Bool := decide (65535 < s.bl.length)
def isKind (x : Int) (s : Sv) : Bool := s.k == x
theorem islong_any (h : Byt w P s.bv s.bl) : Calls Tryd.prog 21 #[sag s] w fun e w' => e = .returned (.bool (long s)) ∧ Kp No w w' := by
  obtain ⟨n, hn⟩ : ∃ n, s.bl.length = n := ⟨_, rfl⟩
  obtain ⟨A, c, he, hc, hm, _, _⟩ := h
  unfold maxLen at hm
  unfold sag long
  rw [he, hn]
  have HN := hid hn
  rw [hn] at hc
  clear he hn
  go_enter Tryd.func21, Tryd.ntmps21
  go_wp2
  go_ret
  exact ⟨by rw [show decide (65535 < n) = decide ((65535 : Int) < (n : Int)) from decide_eq_decide.2 (by omega)]; rfl, (Kp.refl _ _).alloc _⟩

theorem iskind_any {g : Nat} {x : Int} (hg : w.cell? ⟨g, 0, none⟩ = some (.int .i64 x)) : Calls Tryd.prog 30 #[sag s, .pointer (some ⟨g, 0, none⟩)] w fun e w' => e = .returned (.bool (isKind x s)) ∧ Kp No w w' := by
  have hlt := World.block_lt_of_cell? w _ hg
  simp only at hlt
  unfold sag isKind
  obtain ⟨k, hk⟩ : ∃ k, s.k = k := ⟨_, rfl⟩
  obtain ⟨bv, hb⟩ : ∃ k, s.bv = k := ⟨_, rfl⟩
  rw [hk, hb]
  clear hk hb
  go_enter Tryd.func30, Tryd.ntmps30
  go_wp2
  go_ret
  exact ⟨rfl, (Kp.refl _ _).alloc _⟩

/-- Which one is the first that is so. -/
def IdxPost (p : Sv → Bool) (ss : List Sv) (w : World) (e : Ending) (w' : World) : Prop :=
  Kp No w w' ∧ ((∃ j : Nat, j < ss.length ∧ e = .returned (.int .i64 (j : Int)) ∧ p (ss.getD j sv0) = true ∧ ∀ i, i < j → p (ss.getD i sv0) = false) ∨ (e = .returned (.int .i64 (-1)) ∧ ∀ i, i < ss.length → p (ss.getD i sv0) = false))

theorem index_long (h : Ps w P v ss) : Calls Tryd.prog 29 #[v, .func (.func 21) #[] #[]] w (IdxPost long ss w) := by
  obtain ⟨n, hn⟩ : ∃ n, ss.length = n := ⟨_, rfl⟩
  obtain ⟨A, c, rfl, hc, hm⟩ := h.form hn
  have HN := hid hn
  have HO := hid h
  clear hn h
  go_enter Tryd.func29, Tryd.ntmps29
  go_wp2
  go_loopw [8] (fun i w' => ∃ k : Nat, k ≤ n ∧ i = .int .i64 (k : Int) ∧ Hid (Kp No w w' ∧ ∀ i, i < k → long (ss.getD i sv0) = false)) (fun i _ => n - (intOf i).toNat)
  case atStart => exact ⟨0, Nat.zero_le _, rfl, hid ⟨Kp.refl _ _, fun j hj => by omega⟩⟩
  case round =>
    obtain ⟨k, hk, rfl, HT⟩ := hrel
    by_cases hkn : k < n
    · have HK := hid (show k < ss.length by rw [HN.out]; exact hkn)
      obtain ⟨b, o, rfl, ok, c0, c1⟩ := (HO.out.kp0 HT.out.1).at' (k := k) HK.out
      have HB := hid ok.b
      obtain ⟨s, hs⟩ : ∃ s, ss.getD k sv0 = s := ⟨_, rfl⟩
      have HS := hid hs
      rw [hs] at c0 c1 HB
      obtain ⟨bv, hbv⟩ : ∃ k, s.bv = k := ⟨_, rfl⟩
      obtain ⟨y, hy⟩ : ∃ k, s.k = k := ⟨_, rfl⟩
      have HE := hid (show sag s = .agg #[.int .i64 y, bv] by unfold sag; rw [hbv, hy])
      rw [hbv] at c1
      rw [hy] at c0
      obtain ⟨q, hq⟩ : ∃ q, long s = q := ⟨_, rfl⟩
      have HQ := hid hq
      have hsum := wrapI (x := (k : Int) + 1) (by unfold I64; omega)
      have hki : (k : Int) < (n : Int) := by omega
      clear ok hs hbv hy hq
      cases q with
      | true =>
        go_wp2_with (first
          | (go_at_call 21
             rw [← HE.out]
             refine (islong_any HB.out).mono ?_
             rintro e w2 ⟨rfl, k2⟩
             rw [HQ.out]
             have K2 := hid (HT.out.1.trans k2)
             clear k2))
        go_ret
        exact ⟨K2.out, .inl ⟨k, HK.out, rfl, by rw [HS.out]; exact HQ.out, HT.out.2⟩⟩
      | false =>
        go_wp2_with (first
          | (go_at_call 21
             rw [← HE.out]
             refine (islong_any HB.out).mono ?_
             rintro e w2 ⟨rfl, k2⟩
             rw [HQ.out]
             have K2 := hid (HT.out.1.trans k2)
             clear k2))
        go_roundw
        case rel =>
          refine ⟨k + 1, by omega, by go_num, hid ⟨K2.out, fun j hj => ?_⟩⟩
          by_cases hjk : j < k
          · exact HT.out.2 j hjk
          · rw [show j = k by omega, HS.out]; exact HQ.out
        case measure => simp [intOf]; omega
    · go_wp2
      go_ret
      exact ⟨HT.out.1, .inr ⟨rfl, fun i hi => HT.out.2 i (by have := HN.out; omega)⟩⟩

theorem index_kind {g : Nat} {x : Int} (hg : w.cell? ⟨g, 0, none⟩ = some (.int .i64 x)) (h : Ps w P v ss) : Calls Tryd.prog 29 #[v, .func (.func 30) #[] #[.pointer (some ⟨g, 0, none⟩)]] w (IdxPost (isKind x) ss w) := by
  obtain ⟨n, hn⟩ : ∃ n, ss.length = n := ⟨_, rfl⟩
  obtain ⟨A, c, rfl, hc, hm⟩ := h.form hn
  have HN := hid hn
  have HO := hid h
  have HG := hid hg
  have HGL := hid (World.block_lt_of_cell? w _ hg)
  clear hg
  clear hn h
  go_enter Tryd.func29, Tryd.ntmps29
  go_wp2
  go_loopw [8] (fun i w' => ∃ k : Nat, k ≤ n ∧ i = .int .i64 (k : Int) ∧ Hid (Kp No w w' ∧ ∀ i, i < k → (isKind x) (ss.getD i sv0) = false)) (fun i _ => n - (intOf i).toNat)
  case atStart => exact ⟨0, Nat.zero_le _, rfl, hid ⟨Kp.refl _ _, fun j hj => by omega⟩⟩
  case round =>
    obtain ⟨k, hk, rfl, HT⟩ := hrel
    by_cases hkn : k < n
    · have HK := hid (show k < ss.length by rw [HN.out]; exact hkn)
      obtain ⟨b, o, rfl, ok, c0, c1⟩ := (HO.out.kp0 HT.out.1).at' (k := k) HK.out
      have HB := hid ok.b
      obtain ⟨s, hs⟩ : ∃ s, ss.getD k sv0 = s := ⟨_, rfl⟩
      have HS := hid hs
      rw [hs] at c0 c1 HB
      obtain ⟨bv, hbv⟩ : ∃ k, s.bv = k := ⟨_, rfl⟩
      obtain ⟨y, hy⟩ : ∃ k, s.k = k := ⟨_, rfl⟩
      have HE := hid (show sag s = .agg #[.int .i64 y, bv] by unfold sag; rw [hbv, hy])
      rw [hbv] at c1
      rw [hy] at c0
      obtain ⟨q, hq⟩ : ∃ q, (isKind x) s = q := ⟨_, rfl⟩
      have HQ := hid hq
      have hsum := wrapI (x := (k : Int) + 1) (by unfold I64; omega)
      have hki : (k : Int) < (n : Int) := by omega
      clear ok hs hbv hy hq
      cases q with
      | true =>
        go_wp2_with (first
          | (go_at_call 30
             rw [← HE.out]
             refine (iskind_any (s := s) (x := x) (by exact (HT.out.1.cell HGL.out (fun h => h)).trans HG.out)).mono ?_
             rintro e w2 ⟨rfl, k2⟩
             rw [HQ.out]
             have K2 := hid (HT.out.1.trans k2)
             clear k2))
        go_ret
        exact ⟨K2.out, .inl ⟨k, HK.out, rfl, by rw [HS.out]; exact HQ.out, HT.out.2⟩⟩
      | false =>
        go_wp2_with (first
          | (go_at_call 30
             rw [← HE.out]
             refine (iskind_any (s := s) (x := x) (by exact (HT.out.1.cell HGL.out (fun h => h)).trans HG.out)).mono ?_
             rintro e w2 ⟨rfl, k2⟩
             rw [HQ.out]
             have K2 := hid (HT.out.1.trans k2)
             clear k2))
        go_roundw
        case rel =>
          refine ⟨k + 1, by omega, by go_num, hid ⟨K2.out, fun j hj => ?_⟩⟩
          by_cases hjk : j < k
          · exact HT.out.2 j hjk
          · rw [show j = k by omega, HS.out]; exact HQ.out
        case measure => simp [intOf]; omega
    · go_wp2
      go_ret
      exact ⟨HT.out.1, .inr ⟨rfl, fun i hi => HT.out.2 i (by have := HN.out; omega)⟩⟩

theorem contains_any (h : Ps w P v ss) : Calls Tryd.prog 20 #[v, .func (.func 21) #[] #[]] w fun e w' => e = .returned (.bool (ss.any long)) ∧ Kp No w w' := by
  have HO := hid h
  have HM := hid (show ∀ j, j < ss.length → ss.getD j sv0 ∈ ss from fun j hj => by simp [List.getD, hj])
  clear h
  go_enter Tryd.func20, Tryd.ntmps20
  go_wp2_with fail
  refine (index_long HO.out).mono ?_
  rintro e w1 ⟨k1, ⟨j, hj, rfl, hp, _⟩ | ⟨rfl, hall⟩⟩
  · have K1 := hid k1
    have HA := hid (show ss.any long = true from List.any_eq_true.2 ⟨_, HM.out j hj, hp⟩)
    have g1 : (0 : Int) ≤ (j : Int) := by omega
    clear k1 hp hj
    go_wp2
    go_ret
    rw [HA.out]
    exact ⟨rfl, K1.out⟩
  · have K1 := hid k1
    have HA := hid (show ss.any long = false by
      rw [List.any_eq_false]
      intro s hs
      obtain ⟨j, hj, rfl⟩ := List.getElem_of_mem hs
      have := hall j hj
      simpa [List.getD, hj] using this)
    clear k1 hall
    go_wp2
    go_ret
    rw [HA.out]
    exact ⟨rfl, K1.out⟩

theorem rise_any (h : Ps w P v ss) : Calls Tryd.prog 19 #[v] w fun e w' => e = .returned (.bool (risen 0 (ss.map sn))) ∧ Kp No w w' := by
  obtain ⟨n, hn⟩ : ∃ n, ss.length = n := ⟨_, rfl⟩
  obtain ⟨A, c, rfl, hc, hm⟩ := h.form hn
  have HN := hid hn
  have HO := hid h
  clear hn h
  go_enter Tryd.func19, Tryd.ntmps19
  go_wp2
  go_loopw [3, 8] (fun l i w' => ∃ (k : Nat) (y : Int), k ≤ n ∧ i = .int .i64 (k : Int) ∧ l = .int .i64 y ∧ Hid (Kp No w w' ∧ (∀ j, j < k → RiseAt 0 ss j) ∧ y = (match k with | 0 => 0 | i + 1 => (ss.getD i sv0).k) ∧ 0 ≤ y)) (fun _ i _ => n - (intOf i).toNat)
  case atStart => exact ⟨0, 0, Nat.zero_le _, rfl, rfl, hid ⟨Kp.refl _ _, fun j hj => by omega, rfl, by omega⟩⟩
  case round =>
    obtain ⟨k, y, hk, rfl, rfl, HT⟩ := hrel
    by_cases hkn : k < n
    · have HK := hid (show k < ss.length by rw [HN.out]; exact hkn)
      obtain ⟨b, o, rfl, ok, c0, c1⟩ := (HO.out.kp0 HT.out.1).at' (k := k) HK.out
      obtain ⟨nb, hnb⟩ : ∃ nb, (ss.getD k sv0).bl.length = nb := ⟨_, rfl⟩
      obtain ⟨B, bc, hbv, hbc, hbm⟩ := ok.form hnb
      obtain ⟨x, hx⟩ : ∃ q, (ss.getD k sv0).k = q := ⟨_, rfl⟩
      rw [hbv] at c1
      rw [hx] at c0
      have HX := hid hx
      have hsum := wrapI (x := (k : Int) + 1) (by unfold I64; omega)
      have hki : (k : Int) < (n : Int) := by omega
      have hR : RiseAt 0 ss k ↔ (y < x ∧ x ≤ 255) := by
        have h3 := HT.out.2.2
        unfold RiseAt
        rw [HX.out]
        cases k with
        | zero => simp only at h3 ⊢; omega
        | succ k => simp only at h3 ⊢; omega
      clear ok hbv hx hnb hbc hbm
      by_cases h1 : x ≤ y
      · have HB := hid (show risen 0 (ss.map sn) = false by
          cases hb : risen 0 (ss.map sn) with
          | false => rfl
          | true => have := hR.1 ((rise_iff ss 0).1 hb k HK.out); omega)
        clear hR
        go_wp2
        go_ret
        rw [HB.out]
        exact ⟨rfl, HT.out.1.alloc _⟩
      by_cases h2 : 255 < x
      · have HB := hid (show risen 0 (ss.map sn) = false by
          cases hb : risen 0 (ss.map sn) with
          | false => rfl
          | true => have := hR.1 ((rise_iff ss 0).1 hb k HK.out); omega)
        clear hR
        go_wp2
        go_ret
        rw [HB.out]
        exact ⟨rfl, HT.out.1.alloc _⟩
      have HR := hid (hR.2 (by omega))
      have HY := hid HT.out.2.2.2
      have HX0 := hid (show 0 ≤ x by have := HY.out; omega)
      clear hR
      go_wp2
      go_roundw
      case rel =>
        refine ⟨k + 1, x, by omega, by go_num, rfl, hid ⟨HT.out.1.alloc _, fun j hj => ?_, HX.out.symm, HX0.out⟩⟩
        by_cases hjk : j < k
        · exact HT.out.2.1 j hjk
        · rw [show j = k by omega]; exact HR.out
      case measure => simp [intOf]; omega
    · have HB := hid (show risen 0 (ss.map sn) = true from (rise_iff ss 0).2 fun j hj => HT.out.2.1 j (by have := HN.out; omega))
      go_wp2
      go_ret
      rw [HB.out]
      exact ⟨rfl, HT.out.1⟩

theorem clone_any {xs : List Int} (h : Byt w P v xs) (hl : xs.length ≤ 140737488355328) : Calls Tryd.prog 31 #[v] w fun e w' => ∃ u, e = .returned u ∧ Own w' w.heap.size 5 u xs ∧ Kp No w w' := by
  have HO := hid h
  have HL := hid hl
  obtain ⟨A, c, rfl, hc, hm, _, hr⟩ := h
  have hnil : ∀ (a : Option Addr) (l c : Nat) (w : World), (binOp .eql 25 (.slice a l c) (.slice none 0 0)).run Tryd.prog w = .ok (.bool a.isNone) w := fun a l c w => by
    unfold binOp
    simp only [Sem.run_bind, run_equal_slice_nil w 25 5 a l c Tryd.underlying25, Result.andThen_ok, Sem.run_pure]
  clear hl
  rcases A with _ | a
  · have h0 : xs = [] := by
      rcases xs with _ | ⟨x, xs⟩
      · rfl
      · obtain ⟨b, o, he, _⟩ := hr (by simp)
        cases he
    subst h0
    clear hr
    go_enter Tryd.func31, Tryd.ntmps31
    go_wp2
    go_ret
    exact ⟨_, rfl, Own.nil _ _ _, Kp.refl _ _⟩
  · clear hr
    go_enter Tryd.func31, Tryd.ntmps31
    go_wp2_with (first
      | (at_builtin
         refine wp_app isU8 rfl (.tmp 5) (.tmp 6) rfl (base := w.heap.size) (xs := []) (ys := xs) (by exact Own.mt _ _) (by exact HO.out.kp0 ((Kp.refl _ _).alloc _)) (by have := HL.out; simp; omega) (by simp) ?_
         intro v2 w2 o2 k2
         rw [List.nil_append] at o2
         have O2 := hid o2
         have K2 := hid (((Kp.refl No w).alloc (.cells #[] 5)).step k2 fun i hi h => by omega)
         clear o2 k2))
    go_ret
    exact ⟨_, rfl, O2.out, K2.out⟩

/-- What is found, by the program: bytes of its own. -/
def FndPost (ss : List Sv) (k : Int) (w : World) (e : Ending) (w' : World) : Prop :=
  Kp No w w' ∧ ((∃ u x, e = .returned (.tuple #[u, .bool true]) ∧ Own w' w.heap.size 5 u x ∧ find (ss.map sn) k = some x) ∨ (e = .returned (.tuple #[.slice none 0 0, .bool false]) ∧ find (ss.map sn) k = none))
theorem find_any (h : Ps w P v ss) (x : Int) (hl : ∀ s ∈ ss, s.bl.length ≤ 140737488355328) : Calls Tryd.prog 13 #[v, .int .i64 x] w (FndPost ss x w) := by
  obtain ⟨n, hn⟩ : ∃ n, ss.length = n := ⟨_, rfl⟩
  obtain ⟨A, c, rfl, hc, hm⟩ := h.form hn
  have HN := hid hn
  have HO := hid h
  have HL := hid hl
  have hmf : ∀ (fn : Fn) (first cap : Array Value) (w : World), (Instr.makeFunc fn first cap).run Tryd.prog w = .ok (.func fn first cap) w := fun _ _ _ _ => rfl
  clear hn h hl
  go_enter Tryd.func13, Tryd.ntmps13
  go_wp2_with fail
  have HO1 := hid (HO.out.kp0 ((Kp.refl No w).alloc (.cells #[.int .i64 x] 3)))
  refine (index_kind (x := x) (g := w.heap.size) (by simp) HO1.out).mono ?_
  rintro e w1 ⟨k1, ⟨j, hj, rfl, hp, hlt⟩ | ⟨rfl, hall⟩⟩
  · have K1 := hid (((Kp.refl No w).alloc (.cells #[.int .i64 x] 3)).trans k1)
    have HF := hid (find_at (k := x) hj (fun i hi => by have := hlt i hi; unfold isKind at this; simpa using this) (by unfold isKind at hp; simpa using hp))
    have hjn : j < n := by rw [← HN.out]; exact hj
    obtain ⟨b, o, rfl, ok, _, c1⟩ := (HO.out.kp0 K1.out).at' (k := j) hj
    have HB := hid ok.b
    have HBL := hid (HL.out (ss.getD j sv0) (by simp [List.getD, hj]))
    obtain ⟨nb, hnb⟩ : ∃ nb, (ss.getD j sv0).bl.length = nb := ⟨_, rfl⟩
    obtain ⟨B, bc, hbv, _, _⟩ := ok.form hnb
    rw [hbv] at c1 HB
    have g1 : ¬ (j : Int) < 0 := by omega
    have g2 : (j : Int) < (n : Int) := by omega
    clear k1 hp hlt hj ok hbv hnb
    go_wp2_with (first
      | (go_at_call 31
         refine (clone_any HB.out HBL.out).mono ?_
         rintro e w2 ⟨u, rfl, o2, k2⟩
         have O2 := hid (o2.lower K1.out.size)
         have K2 := hid (K1.out.trans k2)
         clear o2 k2))
    go_ret2
    exact ⟨K2.out, .inl ⟨_, _, rfl, O2.out, HF.out⟩⟩
  · have K1 := hid (((Kp.refl No w).alloc (.cells #[.int .i64 x] 3)).trans k1)
    have HF := hid (find_no (ss := ss) (k := x) fun i hi => by have := hall i hi; unfold isKind at this; simpa using this)
    clear k1 hall
    go_wp2
    go_ret2
    exact ⟨K1.out, .inr ⟨rfl, HF.out⟩⟩
end
end Go.Proofs.YthhikjgaljkfpaaDoor

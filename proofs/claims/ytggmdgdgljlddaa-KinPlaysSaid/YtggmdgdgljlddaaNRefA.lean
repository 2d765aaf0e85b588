/-
  The document's tree: a list of pairs, told by the same T; contracts of its Has, Parent.
-/
import Derived.Test.YtggmdgdgljlddaaNLawB
namespace Go.Proofs.Ytggmdgdgljlddaa
open Go.RowKit

/-- A pair. -/
def pc (x : Int × Int) (i : Nat) : Value := if i = 0 then .int .i64 x.1 else .int .i64 x.2
theorem pc_one (x : Int × Int) (i : Nat) : (pc x i).oneCell' = true := by unfold pc; split <;> rfl
/-- The list stands for the tree. -/
structure LT (L : List (Int × Int)) (T : Tre) : Prop where
  nd : (L.map (·.1)).Nodup
  mem : ∀ x p, (x, p) ∈ L ↔ x ≠ 0 ∧ ∃ ks, T x = some (p, ks)
/-- The document's tree at r. -/
structure RT (w : World) (P : Nat → Prop) (r : Nat) (v : Value) (L : List (Int × Int)) : Prop where
  hd : Blk w r 29 #[v]
  rw : Rw 2 pc (0, 0) w P v L
  pr : ∀ i, P i → i ≠ r
section
variable {T : Tre} {D : Int → Nat} {w w' : World} {S P : Nat → Prop} {r : Nat} {v : Value} {L : List (Int × Int)} {x : Int}
theorem LT.has (h : LT L T) (W : WT T D) (x : Int) : ((∃ p, (x, p) ∈ L) ∨ x = 0) ↔ (T x).isSome = true := by
  obtain ⟨k, h0⟩ := W.top
  constructor
  · rintro (⟨p, hp⟩ | rfl)
    · obtain ⟨_, ks, e⟩ := (h.mem x p).1 hp
      rw [e]
      rfl
    · rw [h0]
      rfl
  · intro hs
    by_cases e : x = 0
    · exact .inr e
    · obtain ⟨q, hq⟩ := Option.isSome_iff_exists.1 hs
      exact .inl ⟨q.1, (h.mem x q.1).2 ⟨e, q.2, hq⟩⟩
theorem LT.par (h : LT L T) {p : Int} (hp : (x, p) ∈ L) : par T x = p := by
  obtain ⟨_, ks, e⟩ := (h.mem x p).1 hp
  exact par_some e
theorem LT.none (h : LT L T) (W : WT T D) (hn : ∀ p, (x, p) ∉ L) : Go.Proofs.Ytggmdgdgljlddaa.par T x = -1 := by
  rw [W.par_iff]
  cases e : T x with
  | none => exact .inl rfl
  | some q =>
    by_cases e0 : x = 0
    · exact .inr e0
    · exact absurd ((h.mem x q.1).2 ⟨e0, q.2, e⟩) (hn q.1)
theorem RT.kp (h : RT w P r v L) (k : Kp S w w') (hs : ∀ i, P i → ¬ S i) (hr : ¬ S r) : RT w' P r v L := ⟨h.hd.kp k hr, h.rw.kp k fun i _ hp => hs i hp, h.pr⟩
theorem RT.kp0 (h : RT w P r v L) (k : Kp No w w') : RT w' P r v L := h.kp k (fun _ _ h => h) fun h => h
set_option maxHeartbeats 1000000 in
set_option maxRecDepth 100000 in
theorem rhas_any (h : RT w P r v L) (hl : LT L T) (W : WT T D) (x : Int) : Calls Try.prog 14 #[.pointer (some ⟨r, 0, none⟩), .int .i64 x] w fun e w' => e = .returned (.bool (T x).isSome) ∧ w' = w := by
  have HR := hid h.rw
  have cL := h.hd.cell 0
  obtain ⟨A, c, rfl, hc, hm, _⟩ := h.rw
  unfold maxLen at hm
  obtain ⟨n, hn⟩ : ∃ n, L.length = n := ⟨_, rfl⟩
  have HN := hid hn
  have HW := hid W
  have HLT := hid hl
  simp only [List.getElem?_toArray, List.getElem?_cons_zero] at cL
  rw [hn] at hc HR cL
  clear h hn hl W
  go_enter Try.func14, Try.ntmps14
  go_wp2_with fail
  go_loopw [5] (fun i wr => ∃ k : Nat, k ≤ n ∧ i = .int .i64 (k : Int) ∧ wr = w ∧ Hid (∀ y ∈ L.take k, y.1 ≠ x)) (fun i _ => n - (intOf i).toNat)
  case atStart => exact ⟨0, Nat.zero_le _, rfl, rfl, hid (by simp)⟩
  case round =>
    obtain ⟨k, hk, rfl, rfl, HX⟩ := hrel
    by_cases hkn : k < n
    · have g1 : (k : Int) < (n : Int) := by omega
      have hkl : k < L.length := by rw [HN.out]; exact hkn
      obtain ⟨b, o, rfl⟩ := HR.out.there (by omega)
      have hc1 := HR.out.cell (i := 0) (Kp.refl No wr) hkl (by omega) rfl
      have hc2 := HR.out.cell (i := 1) (Kp.refl No wr) hkl (by omega) rfl
      simp only [pc, if_true, Nat.one_ne_zero, if_false, Nat.add_zero, ← Nat.add_assoc] at hc1 hc2
      have HY := hid (take_s L hkl (0, 0))
      have HM := hid (show L.getD k (0, 0) ∈ L by simp [List.getD, hkl])
      obtain ⟨y, hy⟩ : ∃ y, L.getD k (0, 0) = y := ⟨_, rfl⟩
      rw [hy] at hc1 hc2 HY HM
      obtain ⟨yi, yp⟩ := y
      simp only at hc1 hc2
      have hwk := wrapI (x := (k : Int) + 1) (by unfold I64; omega)
      clear hy hkl
      by_cases e : yi = x
      · have e1 : (yi == x) = true := by simp [e]
        have HE := hid e
        clear e
        go_wp2_with fail
        go_ret
        have := (HLT.out.has HW.out x).1 (.inl ⟨yp, by rw [← HE.out]; exact HM.out⟩)
        rw [this]
        exact ⟨rfl, rfl⟩
      · have e1 : (yi == x) = false := by simp [e]
        have HE := hid e
        clear e
        go_wp2_with fail
        go_roundw
        case rel => exact ⟨k + 1, by omega, by go_num, by first | rfl | trivial, hid (by
          intro y hy
          rw [HY.out, List.mem_append] at hy
          rcases hy with hy | hy
          · exact HX.out y hy
          · rw [List.mem_singleton.1 hy]
            exact HE.out)⟩
        case measure => simp [intOf]; omega
    · have hkk : k = n := by omega
      subst hkk
      have hng : ¬ (k : Int) < (k : Int) := by omega
      have hx := HX.out
      rw [List.take_of_length_le (by rw [HN.out]; omega)] at hx
      have HNO := hid hx
      clear hx
      go_wp2_with fail
      go_ret
      refine ⟨?_, rfl⟩
      have hh := HLT.out.has HW.out x
      by_cases e : x = 0
      · rw [hh.1 (.inr e)]
        simp [e]
      · have hn : (T x).isSome = false := by
          rw [Bool.eq_false_iff]
          intro hs
          rcases hh.2 hs with ⟨p, hp⟩ | e2
          · exact HNO.out _ hp rfl
          · exact e e2
        rw [hn]
        simp [e]
set_option maxHeartbeats 1000000 in
set_option maxRecDepth 100000 in
theorem rparent_any (h : RT w P r v L) (hl : LT L T) (W : WT T D) (x : Int) : Calls Try.prog 16 #[.pointer (some ⟨r, 0, none⟩), .int .i64 x] w fun e w' => e = .returned (.int .i64 (par T x)) ∧ w' = w := by
  have HR := hid h.rw
  have cL := h.hd.cell 0
  obtain ⟨A, c, rfl, hc, hm, _⟩ := h.rw
  unfold maxLen at hm
  obtain ⟨n, hn⟩ : ∃ n, L.length = n := ⟨_, rfl⟩
  have HN := hid hn
  have HW := hid W
  have HLT := hid hl
  simp only [List.getElem?_toArray, List.getElem?_cons_zero] at cL
  rw [hn] at hc HR cL
  clear h hn hl W
  go_enter Try.func16, Try.ntmps16
  go_wp2_with fail
  go_loopw [5] (fun i wr => ∃ k : Nat, k ≤ n ∧ i = .int .i64 (k : Int) ∧ wr = w ∧ Hid (∀ y ∈ L.take k, y.1 ≠ x)) (fun i _ => n - (intOf i).toNat)
  case atStart => exact ⟨0, Nat.zero_le _, rfl, rfl, hid (by simp)⟩
  case round =>
    obtain ⟨k, hk, rfl, rfl, HX⟩ := hrel
    by_cases hkn : k < n
    · have g1 : (k : Int) < (n : Int) := by omega
      have hkl : k < L.length := by rw [HN.out]; exact hkn
      obtain ⟨b, o, rfl⟩ := HR.out.there (by omega)
      have hc1 := HR.out.cell (i := 0) (Kp.refl No wr) hkl (by omega) rfl
      have hc2 := HR.out.cell (i := 1) (Kp.refl No wr) hkl (by omega) rfl
      simp only [pc, if_true, Nat.one_ne_zero, if_false, Nat.add_zero, ← Nat.add_assoc] at hc1 hc2
      have HY := hid (take_s L hkl (0, 0))
      have HM := hid (show L.getD k (0, 0) ∈ L by simp [List.getD, hkl])
      obtain ⟨y, hy⟩ : ∃ y, L.getD k (0, 0) = y := ⟨_, rfl⟩
      rw [hy] at hc1 hc2 HY HM
      obtain ⟨yi, yp⟩ := y
      simp only at hc1 hc2
      have hwk := wrapI (x := (k : Int) + 1) (by unfold I64; omega)
      clear hy hkl
      by_cases e : yi = x
      · have e1 : (yi == x) = true := by simp [e]
        have HE := hid e
        clear e
        go_wp2_with fail
        go_ret
        have := HLT.out.par (x := x) (p := yp) (by rw [← HE.out]; exact HM.out)
        rw [this]
        exact ⟨rfl, rfl⟩
      · have e1 : (yi == x) = false := by simp [e]
        have HE := hid e
        clear e
        go_wp2_with fail
        go_roundw
        case rel => exact ⟨k + 1, by omega, by go_num, by first | rfl | trivial, hid (by
          intro y hy
          rw [HY.out, List.mem_append] at hy
          rcases hy with hy | hy
          · exact HX.out y hy
          · rw [List.mem_singleton.1 hy]
            exact HE.out)⟩
        case measure => simp [intOf]; omega
    · have hkk : k = n := by omega
      subst hkk
      have hng : ¬ (k : Int) < (k : Int) := by omega
      have hx := HX.out
      rw [List.take_of_length_le (by rw [HN.out]; omega)] at hx
      have HNO := hid hx
      clear hx
      go_wp2_with fail
      go_ret
      have := HLT.out.none (x := x) HW.out fun p hp => HNO.out _ hp rfl
      rw [this]
      exact ⟨rfl, rfl⟩
end
end Go.Proofs.Ytggmdgdgljlddaa

/-
  Contracts of Path, deep; slices.Contains at ints.
-/
import Derived.Test.YtggmdgdgljlddaaNMem
import Derived.Deep.DeepCutAuto
import Derived.Deep.CutRange
namespace Go.Proofs.Ytggmdgdgljlddaa
open Go.RowKit

def zf (x : Int) (_ : Nat) : Value := .int .i64 x
theorem zf_one (x : Int) (i : Nat) : (zf x i).oneCell' = true := rfl
theorem usI : Us Try.prog 37 3 1 8 (.int .i64 0) := ⟨by kernel_rfl, by kernel_rfl, by decide, by decide⟩
theorem one_int (w : World) (y : Int) : Rw 1 zf 0 (w.alloc (.cells #[.int .i64 y] 3)) Anyb (.slice (some ⟨w.heap.size, 0, none⟩) 1 1) [y] := by
  have b := Blk.new w 3 #[.int .i64 y]
  refine ⟨_, 1, rfl, Nat.le_refl _, by simp [maxLen], fun _ => ⟨w.heap.size, 0, rfl, b.lt, trivial, fun j i hj hi => ?_⟩⟩
  have e1 : j = 0 := by simpa using hj
  have e2 : i = 0 := by omega
  subst e1 e2
  exact b.cell 0
section
variable {T : Tre} {D : Int → Nat} {w : World} {S P : Nat → Prop} {g m cnt : Nat} {x : Int}
theorem path_le (W : WT T D) (x : Int) : (path T x).length ≤ 16 := by
  cases h : T x with
  | none => rw [path_nil W (.inl h)]; simp
  | some q => rw [path_len W h]; exact W.d16 h
theorem path_any (W : WT T D) (h : Kn w S g m T cnt) (hx : I64 x) : Calls Try.prog 21 #[.pointer (some ⟨g, 0, none⟩), .int .i64 x] w fun e w' => ∃ v, e = .returned v ∧ Ow w' w.heap.size 3 1 zf v (path T x) ∧ Kp No w w' := by
  have HW := hid W
  have HK := hid h
  have hpl := path_le W x
  obtain ⟨X, hX⟩ : ∃ X, path T x = X := ⟨_, rfl⟩
  rw [hX] at hpl ⊢
  have HX := hid hX
  clear W h hX
  go_enter Try.func21, Try.ntmps21
  go_wp2_with fail
  go_loopw [1, 5] (fun i u wr => ∃ (y : Int) (pre : List Int), i = .int .i64 y ∧ I64 y ∧ Hid (X = pre ++ path T y) ∧ Hid (Ow wr w.heap.size 3 1 zf u pre) ∧ Hid (Kp No w wr)) (fun i _ _ => (path T (intOf i)).length)
  case atStart => exact ⟨x, [], rfl, hx, hid (by rw [HX.out]; rfl), hid (Ow.nil _ _ _ _ _), hid (Kp.refl _ _)⟩
  case round =>
    obtain ⟨y, pre, rfl, hy, HE, HO, KW⟩ := hrel
    by_cases hp : par T y = -1
    · have e1 : (par T y != -1) = false := by simp [hp]
      have hnil := hid (show path T y = [] from path_nil HW.out ((HW.out.par_iff y).1 hp))
      clear hp
      go_wp2_with (first
        | (go_at_call 15
           refine (parent_any (HK.out.kp0 KW.out) hy).mono ?_
           rintro e w2 ⟨rfl, k2⟩
           have K2 := hid (KW.out.trans k2)
           have O2 := hid (HO.out.kp0 k2)
           clear k2))
      go_ret
      refine ⟨_, rfl, ?_, K2.out⟩
      have := HE.out
      rw [hnil.out, List.append_nil] at this
      rw [this]
      exact O2.out
    · have e1 : (par T y != -1) = true := by simp [hp]
      cases hT : T y with
      | none => exact absurd (par_none hT) hp
      | some q =>
        have h0 : y ≠ 0 := fun e => hp (by rw [e]; exact HW.out.par0)
        have hpar := par_some hT
        have hc := path_cons HW.out hT h0
        have hpl2 := path_le HW.out y
        obtain ⟨q', hup⟩ := HW.out.up y q hT h0
        have hlow := HW.out.low hup
        have hqi : I64 q.1 := by unfold I64; omega
        obtain ⟨P, hP⟩ : ∃ P, q.1 = P := ⟨_, rfl⟩
        rw [hP] at hpar hc hqi
        rw [hpar] at e1
        have HC := hid hc
        have HPAR := hid hpar
        have hlen : pre.length ≤ 16 := by have := HE.out; rw [this, List.length_append] at hpl; omega
        clear hp hT hup hlow hP hc hpar hpl2
        go_wp2_with (first
          | (go_at_call 15
             refine (parent_any (HK.out.kp0 KW.out) hy).mono ?_
             rintro e w2 ⟨rfl, k2⟩
             rw [HPAR.out]
             have K2 := hid (KW.out.trans k2)
             have O2 := hid (HO.out.kp0 k2)
             clear k2)
          | (at_builtin
             refine wp_apps usI zf_one rfl (.tmp 13) (.tmp 15) rfl (d := 0) (base := w.heap.size) (xs := pre) (ys := [y]) (by exact O2.out.kp0 ((Kp.refl No w2).alloc _)) (by exact one_int w2 y) (by simp; omega) (by simp [maxLen]; omega) (by exact (K2.out.alloc _).size) ?_
             intro v3 w3 o3 k3
             have O3 := hid o3
             have K3 := hid ((K2.out.alloc (.cells #[.int .i64 y] 3)).step k3 fun i hi e => by omega)
             clear o3 k3)
          | (go_at_call 15
             refine (parent_any (HK.out.kp0 K3.out) hy).mono ?_
             rintro e w4 ⟨rfl, k4⟩
             rw [HPAR.out]
             have K4 := hid (K3.out.trans k4)
             have O4 := hid (O3.out.kp0 k4)
             clear k4))
        go_roundw
        case rel => exact ⟨P, pre ++ [y], rfl, hqi, hid (by rw [HE.out, HC.out, List.append_assoc]; rfl), O4, K4⟩
        case measure =>
          simp only [intOf]
          rw [HC.out, List.length_cons]
          omega
theorem deep_any (W : WT T D) (h : Kn w S g m T cnt) (hx : I64 x) : Calls Try.prog 29 #[.pointer (some ⟨g, 0, none⟩), .int .i64 x] w fun e w' => e = .returned (.int .i64 ((path T x).length : Int)) ∧ Kp No w w' := by
  have HP := hid (path_any W h hx)
  obtain ⟨n, hn⟩ : ∃ n, (path T x).length = n := ⟨_, rfl⟩
  have HN := hid hn
  rw [hn]
  clear W h hn
  go_enter Try.func29, Try.ntmps29
  go_wp2_with (first
    | (go_at_call 21
       refine HP.out.mono ?_
       rintro e w2 ⟨v, rfl, o2, k2⟩
       obtain ⟨A, c, rfl⟩ := o2.formN HN.out
       have K2 := hid k2
       clear o2 k2))
  go_ret
  exact ⟨rfl, K2.out⟩
theorem index_any {v : Value} {ks : List Int} (h : Rw 1 zf 0 w P v ks) (x : Int) : Calls Try.prog 36 #[v, .int .i64 x] w fun e w' => (∃ i : Int, e = .returned (.int .i64 i) ∧ (0 ≤ i ↔ x ∈ ks)) ∧ w' = w := by
  have HR := hid h
  obtain ⟨A, c, rfl, hc, hm, _⟩ := id h
  unfold maxLen at hm
  obtain ⟨n, hn⟩ : ∃ n, ks.length = n := ⟨_, rfl⟩
  have HN := hid hn
  rw [hn] at hc HR ⊢
  clear h hn
  go_enter Try.func36, Try.ntmps36
  go_wp2_with fail
  go_loopw [8] (fun i wr => ∃ k : Nat, k ≤ n ∧ i = .int .i64 (k : Int) ∧ wr = w ∧ Hid (x ∉ ks.take k)) (fun i _ => n - (intOf i).toNat)
  case atStart => exact ⟨0, Nat.zero_le _, rfl, rfl, hid (by simp)⟩
  case round =>
    obtain ⟨k, hk, rfl, rfl, HX⟩ := hrel
    by_cases hkn : k < n
    · have g1 : (k : Int) < (n : Int) := by omega
      have hkl : k < ks.length := by rw [HN.out]; exact hkn
      obtain ⟨b, o, rfl⟩ := HR.out.there (by omega)
      have hc1 := HR.out.cell (i := 0) (Kp.refl No wr) hkl (by omega) rfl
      simp only [zf, Nat.mul_one, Nat.add_zero] at hc1
      obtain ⟨y, hy⟩ : ∃ y, ks.getD k 0 = y := ⟨_, rfl⟩
      rw [hy] at hc1
      have hwk := wrapI (x := (k : Int) + 1) (by unfold I64; omega)
      have HY := hid (show ks.take (k + 1) = ks.take k ++ [y] by
        rw [List.take_add_one, List.getElem?_eq_getElem hkl, ← hy]
        simp [List.getD, hkl])
      have HM := hid (show y ∈ ks by rw [← hy]; simp [List.getD, hkl])
      clear hy hkl
      by_cases e : x = y
      · have e1 : (x == y) = true := by simp [e]
        have HE := hid e
        clear e
        go_wp2
        go_ret
        exact ⟨⟨_, rfl, ⟨fun _ => by rw [HE.out]; exact HM.out, fun _ => by omega⟩⟩, rfl⟩
      · have e1 : (x == y) = false := by simp [e]
        have HE := hid e
        clear e
        go_wp2
        go_roundw
        case rel => exact ⟨k + 1, by omega, by go_num, by first | rfl | trivial, hid (by
          rw [HY.out, List.mem_append]
          intro hm
          rcases hm with hm | hm
          · exact HX.out hm
          · exact HE.out (List.mem_singleton.1 hm))⟩
        case measure => simp [intOf]; omega
    · have hkk : k = n := by omega
      subst hkk
      go_wp2
      go_ret
      have := HX.out
      rw [List.take_of_length_le (by rw [HN.out]; omega)] at this
      exact ⟨⟨_, rfl, ⟨fun h => absurd h (by omega), fun h => absurd h this⟩⟩, rfl⟩
theorem contains_any {v : Value} {ks : List Int} (h : Rw 1 zf 0 w P v ks) (x : Int) : Calls Try.prog 31 #[v, .int .i64 x] w fun e w' => e = .returned (.bool (decide (x ∈ ks))) ∧ w' = w := by
  have HI := hid (index_any h x)
  clear h
  go_enter Try.func31, Try.ntmps31
  go_wp2_with (first
    | (go_at_call 36
       refine HI.out.mono ?_
       rintro e w2 ⟨⟨i, rfl, hi⟩, rfl⟩
       have HQ := hid hi
       clear hi))
  go_ret
  refine ⟨?_, rfl⟩
  rw [show decide (0 ≤ i) = decide (x ∈ ks) from decide_eq_decide.2 HQ.out]
  rfl
end
end Go.Proofs.Ytggmdgdgljlddaa

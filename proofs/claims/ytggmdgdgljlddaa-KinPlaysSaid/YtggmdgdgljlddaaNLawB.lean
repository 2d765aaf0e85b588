/-
  Contracts of the laws' awake, walked.
-/
import Derived.Test.YtggmdgdgljlddaaNLaw
import Derived.Deep.DeepCutAuto
import Derived.Deep.CutRange
namespace Go.Proofs.Ytggmdgdgljlddaa
open Go.RowKit

section
variable {w w' : World} {P S : Nat → Prop} {v : Value} {os : List Kop} {T : Tre} {D : Int → Nat} {g m cnt : Nat} {xs : List Int}
theorem ex1 : addE newT 1 0 = 0 := by decide
theorem ex2 : addE (hangT newT 1 0 []) 2 1 = 0 := by decide
theorem ex3 : addE (hangT (hangT newT 1 0 []) 2 1 []) 3 1 = 0 := by decide
theorem ex4 : under (hangT (hangT (hangT newT 1 0 []) 2 1 []) 3 1 []) 1 = [1, 2, 3] := by decide
theorem ex5 : movE (hangT (hangT (hangT newT 1 0 []) 2 1 []) 3 1 []) 1 3 = 11 := by decide
theorem three_ints (w : World) : Sl (Value.int .i64) 0 (w.alloc (.cells #[.int .i64 1, .int .i64 2, .int .i64 3] 3)) Anyb (.slice (some ⟨w.heap.size, 0, none⟩) 3 3) [1, 2, 3] := by
  have b := Blk.new w 3 #[.int .i64 1, .int .i64 2, .int .i64 3]
  refine ⟨_, 3, rfl, Nat.le_refl _, by simp [maxLen], fun _ => ⟨w.heap.size, 0, rfl, b.lt, trivial, fun j hj => ?_⟩⟩
  rw [b.cell]
  match j, hj with
  | 0, _ => rfl
  | 1, _ => rfl
  | 2, _ => rfl
set_option maxHeartbeats 1000000 in
set_option maxRecDepth 100000 in
theorem awake_any (w : World) : Calls Try.prog 4 #[] w fun e w' => e = .returned (.bool true) ∧ Kp No w w' := by
  obtain ⟨T1, h1⟩ : ∃ T1, hangT newT 1 0 [] = T1 := ⟨_, rfl⟩
  obtain ⟨T2, h2⟩ : ∃ T2, hangT T1 2 1 [] = T2 := ⟨_, rfl⟩
  obtain ⟨T3, h3⟩ : ∃ T3, hangT T2 3 1 [] = T3 := ⟨_, rfl⟩
  have e1 := ex1
  have e2 := ex2
  have e3 := ex3
  have e4 := ex4
  have e5 := ex5
  rw [h1] at e2 e3 e4 e5
  rw [h2] at e3 e4 e5
  rw [h3] at e4 e5
  obtain ⟨q1, hp1, hn1, hr1, hd1⟩ := add_ok WT.new e1
  have W1 := WT.new.add hp1 hn1 hr1 hd1
  rw [h1] at W1
  obtain ⟨q2, hp2, hn2, hr2, hd2⟩ := add_ok W1 e2
  have W2 := W1.add hp2 hn2 hr2 hd2
  rw [h2] at W2
  obtain ⟨q3, hp3, hn3, hr3, hd3⟩ := add_ok W2 e3
  have W3 := W2.add hp3 hn3 hr3 hd3
  rw [h3] at W3
  have V1 := hid W1
  have V2 := hid W2
  have V3 := hid W3
  have E1 := hid e1
  have E2 := hid e2
  have E3 := hid e3
  have E4 := hid e4
  have E5 := hid e5
  have H1 := hid h1
  have H2 := hid h2
  have H3 := hid h3
  have HP0 := hid W3.par0
  have i0 : I64 0 := by unfold I64; omega
  have i1 : I64 1 := by unfold I64; omega
  have i2 : I64 2 := by unfold I64; omega
  have i3 : I64 3 := by unfold I64; omega
  clear h1 h2 h3 e1 e2 e3 e4 e5 W1 W2 W3 hp1 hn1 hr1 hd1 hp2 hn2 hr2 hd2 hp3 hn3 hr3 hd3
  go_enter Try.func4, Try.ntmps4
  go_wp2_with (first
    | (go_at_call 5
       refine (new_any w).mono ?_
       rintro e w1 ⟨g, m, rfl, hg, hm, n1, k1⟩
       have K1 := hid k1
       have N1 := hid n1
       clear k1 n1)
    | (go_at_call 23
       with_reducible refine (add_any (id := 1) (p := 0) WT.new N1.out Cn.new (fun i hi => Nat.le_trans K1.out.size hi) i1 i0 (by decide)).mono ?_
       rintro e w2 ⟨rfl, ⟨c2, hc2, hl2, n2⟩, k2⟩
       rw [E1.out, if_pos rfl, H1.out] at hc2 n2
       rw [E1.out]
       have N2 := hid n2
       have C2 := hid (And.intro hc2 hl2)
       have K2 := hid (K1.out.step k2 fun i hi e => by omega)
       clear n2 hc2 hl2 k2)
    | (go_at_call 23
       with_reducible refine (add_any (id := 2) (p := 1) V1.out N2.out C2.out.1 (fun i hi => Nat.le_trans K2.out.size hi) i2 i1 (by have := C2.out.2; omega)).mono ?_
       rintro e w3 ⟨rfl, ⟨c3, hc3, hl3, n3⟩, k3⟩
       rw [E2.out, if_pos rfl, H2.out] at hc3 n3
       rw [E2.out]
       have N3 := hid n3
       have C3 := hid (And.intro hc3 (Nat.le_trans hl3 (Nat.succ_le_succ C2.out.2)))
       have K3 := hid (K2.out.step k3 fun i hi e => by omega)
       clear n3 hc3 hl3 k3)
    | (go_at_call 23
       with_reducible refine (add_any (id := 3) (p := 1) V2.out N3.out C3.out.1 (fun i hi => Nat.le_trans K3.out.size hi) i3 i1 (by have := C3.out.2; omega)).mono ?_
       rintro e w4 ⟨rfl, ⟨c4, hc4, hl4, n4⟩, k4⟩
       rw [E3.out, if_pos rfl, H3.out] at hc4 n4
       rw [E3.out]
       have N4 := hid n4
       have C4 := hid (And.intro hc4 (Nat.le_trans hl4 (Nat.succ_le_succ C3.out.2)))
       have K4 := hid (K3.out.step k4 fun i hi e => by omega)
       clear n4 hc4 hl4 k4)
    | (go_at_call 11
       refine (under_any V3.out N4.out i1).mono ?_
       rintro e w5 ⟨v5, rfl, o5, k5⟩
       rw [E4.out] at o5
       have O5 := hid (Rw.sl (Ow.rw (d := (0 : Int)) o5))
       have K5 := hid (K4.out.trans k5)
       have N5 := hid (N4.out.kp0 k5)
       clear o5 k5)
    | (go_at_call 10
       refine (sameI_any _ _ [1, 2, 3] [1, 2, 3] _ ((O5.out.kp ((Kp.refl No w5).alloc _) fun _ _ _ h => h)) (three_ints w5)).mono ?_
       rintro e w6 ⟨rfl, q6, rfl⟩
       have N6 := hid (N5.out.kp0 (((Kp.refl No w5).alloc (.cells #[.int .i64 1, .int .i64 2, .int .i64 3] 3)).drewN q6))
       have K6 := hid (K5.out.trans (((Kp.refl No w5).alloc (.cells #[.int .i64 1, .int .i64 2, .int .i64 3] 3)).drewN q6)))
    | (go_at_call 24
       refine (move_any (id := 1) (p := 3) V3.out N6.out C4.out.1 (fun i hi => Nat.le_trans K6.out.size hi) i1 i3 (by have := C4.out.2; omega)).mono ?_
       rintro e w7 ⟨rfl, ⟨c7, _, _, n7⟩, k7⟩
       rw [E5.out, if_neg (by decide)] at n7
       rw [E5.out]
       have N7 := hid n7
       have K7 := hid (K6.out.step k7 fun i hi e => by omega)
       clear n7 k7)
    | (go_at_call 15
       refine (parent_any N7.out i0).mono ?_
       rintro e w8 ⟨rfl, k8⟩
       rw [HP0.out]
       have K8 := hid (K7.out.trans k8)
       clear k8))
  go_ret
  exact ⟨rfl, K8.out⟩

/-- A tree of the call's own behind what was done. -/
def WkPost (w : World) (os : List Kop) (e : Ending) (w' : World) : Prop := ∃ g m D cnt, e = .returned (.pointer (some ⟨g, 0, none⟩)) ∧ Kn w' (fun i => w.heap.size ≤ i) g m (os.foldl doT newT) cnt ∧ WT (os.foldl doT newT) D ∧ Cn (os.foldl doT newT) cnt ∧ cnt ≤ os.length + 1 ∧ Kp No w w'
end
end Go.Proofs.Ytggmdgdgljlddaa

/-
  Contracts: the document's reader: Part, Take, End.
-/
import Derived.Test.YtbcekjnemigkkaaLeD
import Derived.Test.YtbcekjnemigkkaaLeA
namespace Go.Proofs.Ytbcekjnemigkkaa
open Go.RowKit

/-- A reader of the document in block g: its bytes, which lie below block B, where it is, how it failed. -/
def Rr (w : World) (g B : Nat) (v : Value) (xs : List Int) (K : Nat) (e : Int) : Prop :=
  Blk w g 37 #[v, .int .i64 K, .int .i64 e] ∧ Byt w (fun i => i < B) v xs ∧ K ≤ xs.length ∧ B ≤ g

theorem Rr.kp {w w' : World} {g B : Nat} {v : Value} {xs : List Int} {K : Nat} {e : Int} {S : Nat → Prop} (h : Rr w g B v xs K e) (k : Kp S w w') (hg : ¬ S g) (hs : ∀ i, i < B → ¬ S i) : Rr w' g B v xs K e :=
  ⟨h.1.kp k hg, h.2.1.kp k hs, h.2.2⟩

def PartPost (g B : Nat) (v : Value) (xs : List Int) (K : Nat) (e m : Int) (w : World) (r : Ending) (w' : World) : Prop :=
  ∃ u K', r = .returned u ∧ Byt w' (fun i => i < B) u (nxP (xs.drop K) e m) ∧ Rr w' g B v xs K' (nxE (xs.drop K) e m) ∧ xs.drop K' = nxR (xs.drop K) e m ∧ Kp (Only g) w w'

set_option maxHeartbeats 1000000 in
theorem refpart_any (g B : Nat) (v : Value) (xs : List Int) (K : Nat) (e m : Int) (w : World) (h : Rr w g B v xs K e) (hl : xs.length ≤ 100000) :
    Calls Try.prog 18 #[.pointer (some ⟨g, 0, none⟩), .int .i64 m] w (PartPost g B v xs K e m w) := by
  have HR := hid h
  obtain ⟨hb, hv, hK, hBg⟩ := h
  have HV := hid hv
  have HB := hid hb
  obtain ⟨A, c, rfl, hc, hmx, hx, hr⟩ := hv
  have c0 : w.cell? ⟨g, 0, none⟩ = some (.slice A xs.length c) := hb.cell 0
  have c1 : w.cell? ⟨g, 1, none⟩ = some (.int .i64 K) := hb.cell 1
  have c2 : w.cell? ⟨g, 2, none⟩ = some (.int .i64 e) := hb.cell 2
  have f1 : w.frozen? ⟨g, 1, none⟩ = false := hb.frozen 1
  have f2 : w.frozen? ⟨g, 2, none⟩ = false := hb.frozen 2
  clear hr hx hb
  unfold maxLen at hmx
  have hdl : (xs.drop K).length = xs.length - K := by simp
  have HD := hid hdl
  clear hdl
  by_cases he : e = 0
  · subst he
    have hne : ((0 : Int) != 0) = false := by decide
    by_cases hneg : m < 0
    · go_enter Try.func18, Try.ntmps18
      go_wp2
      go_ret
      unfold PartPost
      have k1 : Kp (Only g) w (w.setCell ⟨g, 2, none⟩ (.int .i64 1)) := Kp.set1 _ _ _ _
      have p1 : nxP (xs.drop K) 0 m = [] := by rw [nxP, if_neg (by omega)]
      have p2 : nxR (xs.drop K) 0 m = xs.drop K := by rw [nxR, if_neg (by omega)]
      have p3 : nxE (xs.drop K) 0 m = 1 := by rw [nxE, if_pos rfl, if_pos hneg]
      rw [p1, p2, p3]
      exact ⟨_, K, rfl, Byt.nil _ _, ⟨HB.out.put 2 _, HV.out.kp k1 fun i hi h => by have : i = g := h; omega, hK, hBg⟩, rfl, k1⟩
    · have hsub : IntKind.i64.wrap ((xs.length : Int) - (K : Int)) = (xs.length : Int) - (K : Int) := IntWalk.i64_in _ (by omega)
      by_cases hbig : (xs.length : Int) - (K : Int) < m
      · have hd : decide ((xs.length : Int) - (K : Int) < m) = true := by simp [hbig]
        go_enter Try.func18, Try.ntmps18
        go_wp2
        go_quiet (fail)
        go_wp2
        go_ret
        unfold PartPost
        have k1 : Kp (Only g) w ((w.drewN nq).setCell ⟨g, 2, none⟩ (.int .i64 2)) := ((Kp.refl (Only g) w).drewN nq).setCell (p := ⟨g, 2, none⟩) (.inl rfl) _
        have p1 : nxP (xs.drop K) 0 m = [] := by have := HD.out; rw [nxP, if_neg (by omega)]
        have p2 : nxR (xs.drop K) 0 m = xs.drop K := by have := HD.out; rw [nxR, if_neg (by omega)]
        have p3 : nxE (xs.drop K) 0 m = 2 := by have := HD.out; rw [nxE, if_pos rfl, if_neg (by omega), if_pos (by omega)]
        rw [p1, p2, p3]
        exact ⟨_, K, rfl, Byt.nil _ _, ⟨Blk.put (w := w.drewN nq) HB.out 2 _, HV.out.kp k1 fun i hi h => by have : i = g := h; omega, hK, hBg⟩, rfl, k1⟩
      · have hd : decide ((xs.length : Int) - (K : Int) < m) = false := by simp; omega
        go_enter Try.func18, Try.ntmps18
        go_wp2
        go_quiet (fail)
        generalize nq = q1
        clear nq
        obtain ⟨j, rfl⟩ : ∃ j : Nat, m = (j : Int) := ⟨m.toNat, by omega⟩
        have hadd : IntKind.i64.wrap ((K : Int) + (j : Int)) = (K : Int) + (j : Int) := IntWalk.i64_in _ (by omega)
        go_wp2
        have hs1 : IntKind.i64.wrap ((K : Int) + (j : Int) - (j : Int)) = (K : Int) := by rw [show (K : Int) + (j : Int) - (j : Int) = (K : Int) from by omega]; exact IntWalk.i64_in _ (by omega)
        have ht1 : ((K : Int) + (j : Int)).toNat = K + j := by omega
        have hb1 : (K : Int) ≤ (K : Int) + (j : Int) := by omega
        have hb2 : (K : Int) + (j : Int) ≤ (c : Int) := by omega
        have hb3 : (0 : Int) ≤ (K : Int) + (j : Int) := by omega
        clear hsub hd
        go_quiet (fail)
        generalize nq = q2
        clear nq
        go_wp2
        all_goals
          go_ret
          unfold PartPost
          have hd := HD.out
          have p1 : nxP (xs.drop K) 0 j = (xs.drop K).take j := by rw [nxP, if_pos ⟨rfl, by omega, by omega⟩, Int.toNat_natCast]
          have p2 : nxR (xs.drop K) 0 j = (xs.drop K).drop j := by rw [nxR, if_pos ⟨rfl, by omega, by omega⟩, Int.toNat_natCast]
          have p3 : nxE (xs.drop K) 0 j = 0 := by rw [nxE, if_pos rfl, if_neg (by omega), if_neg (by omega)]
          rw [p1, p2, p3, List.drop_drop]
          have k1 : Kp (Only g) w (((w.drewN q1).setCell ⟨g, 1, none⟩ (.int .i64 ((K : Int) + (j : Int)))).drewN q2) := (((Kp.refl (Only g) w).drewN q1).setCell (p := ⟨g, 1, none⟩) (.inl rfl) _).drewN q2
          have hv1 := HV.out.kp k1 fun i hi h => by have : i = g := h; omega
        · have hcK : c = K := by assumption
          have e0 : (xs.drop K).take j = [] := by rw [List.drop_of_length_le (by omega)]; simp
          rw [e0]
          obtain rfl : j = 0 := by omega
          have hB := HB.out
          rw [hcK] at hB hv1
          exact ⟨_, K + 0, rfl, Byt.empty _ _ _ _ (by simp), ⟨Blk.put (w := w.drewN q1) hB 1 _, hv1, by omega, hBg⟩, rfl, k1⟩
        · have hn : (xs.length - K) = (xs.drop K).length := hd.symm
          refine ⟨_, K + j, rfl, ?_, ⟨Blk.put (w := w.drewN q1) HB.out 1 _, hv1, by omega, hBg⟩, rfl, k1⟩
          exact (hv1.drop K hK).take j (by omega)
  · have hne : (e != 0) = true := by simp [he]
    go_enter Try.func18, Try.ntmps18
    go_wp2
    go_ret
    unfold PartPost
    have p1 : nxP (xs.drop K) e m = [] := by simp [nxP, he]
    have p2 : nxR (xs.drop K) e m = xs.drop K := by simp [nxR, he]
    have p3 : nxE (xs.drop K) e m = e := by simp [nxE, he]
    rw [p1, p2, p3]
    exact ⟨_, K, rfl, Byt.nil _ _, HR.out, rfl, Kp.refl _ _⟩

theorem reftake_any (g B : Nat) (v : Value) (xs : List Int) (K : Nat) (e x : Int) (w : World) (h : Rr w g B v xs K e) (hl : xs.length ≤ 100000) :
    Calls Try.prog 20 #[.pointer (some ⟨g, 0, none⟩), .int .i64 x] w fun r w' =>
      r = .returned (.int .u64 (num (nxP (xs.drop K) e (hw x)))) ∧ Hid (∃ K', Rr w' g B v xs K' (nxE (xs.drop K) e (hw x)) ∧ xs.drop K' = nxR (xs.drop K) e (hw x) ∧ Kp (Only g) w w') := by
  have hlen : (nxP (xs.drop K) e (hw x)).length ≤ 8 := by have := hw_bd x; unfold nxP; split <;> simp; omega
  go_enter Try.func20, Try.ntmps20
  go_wp2_with fail
  refine (width_any _ _).mono ?_
  rintro r w1 ⟨rfl, rfl⟩
  go_wp2_with fail
  refine (refpart_any g B v xs K e _ _ h hl).mono ?_
  rintro r w2 ⟨u, K', rfl, hu, hr⟩
  have HU := hid hu
  have HR := hid hr
  clear hu hr
  go_wp2_with fail
  refine (number_any _ _ _ HU.out hlen).mono ?_
  rintro r w3 ⟨rfl, rfl⟩
  go_wp2_with fail
  go_ret
  exact ⟨rfl, K', HR.out⟩

theorem refend_any (g B : Nat) (v : Value) (xs : List Int) (K : Nat) (e : Int) (w : World) (h : Rr w g B v xs K e) :
    Calls Try.prog 24 #[.pointer (some ⟨g, 0, none⟩)] w fun r w' => r = .returned (.int .i64 (enE (xs.drop K).length e)) ∧ ∃ n, w' = w.drewN n := by
  obtain ⟨hb, ⟨A, c, rfl, hc, hm, hx, hr⟩, hK, hBg⟩ := h
  have c0 : w.cell? ⟨g, 0, none⟩ = some (.slice A xs.length c) := hb.cell 0
  have c1 : w.cell? ⟨g, 1, none⟩ = some (.int .i64 K) := hb.cell 1
  have c2 : w.cell? ⟨g, 2, none⟩ = some (.int .i64 e) := hb.cell 2
  rw [List.length_drop]
  clear hb hx hr
  by_cases he : e = 0
  · subst he
    have hne : ((0 : Int) != 0) = false := by decide
    by_cases h0 : K < xs.length
    · have hp : decide ((K : Int) < (xs.length : Int)) = true := by simp; omega
      have hz : enE (xs.length - K) 0 = 3 := by rw [enE, if_pos rfl, if_neg (by omega)]
      have HZ := hid hz
      clear hz
      go_enter Try.func24, Try.ntmps24
      go_wp2
      go_quiet (fail)
      go_wp2
      go_ret
      rw [HZ.out]
      exact ⟨rfl, _, rfl⟩
    · have hp : decide ((K : Int) < (xs.length : Int)) = false := by simp; omega
      have hz : enE (xs.length - K) 0 = 0 := by rw [enE, if_pos rfl, if_pos (by omega)]
      have HZ := hid hz
      clear hz
      go_enter Try.func24, Try.ntmps24
      go_wp2
      go_quiet (fail)
      go_wp2
      go_ret
      rw [HZ.out]
      exact ⟨rfl, _, rfl⟩
  · have hne : (e != 0) = true := by simp [he]
    have hz : enE (xs.length - K) e = e := by simp [enE, he]
    have HZ := hid hz
    clear hz
    go_enter Try.func24, Try.ntmps24
    go_wp2
    go_ret
    rw [HZ.out]
    exact ⟨rfl, 0, rfl⟩
end Go.Proofs.Ytbcekjnemigkkaa

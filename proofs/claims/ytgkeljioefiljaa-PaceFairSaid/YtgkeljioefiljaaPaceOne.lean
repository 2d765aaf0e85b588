/-
  Contract: One, the document's tick, unit by unit.
-/
import Derived.Test.YtgkeljioefiljaaPaceD
namespace Go.Proofs.Ytgkeljioefiljaa
open Go.RowKit

/-- What the loop keeps: the pace and the answer's cells. -/
structure Ones (a : World) (v r : Int) (w : World) : Prop where
  kept : Kp No a w
  one : Blk w a.heap.size 23 #[.int .i64 v, .int .i64 r]
  two : Blk w (a.heap.size + 1) 23 #[.int .i64 0, .int .i64 0]
theorem Ones.start (w : World) (v r : Int) : Ones w v r ((w.alloc (.cells #[.int .i64 v, .int .i64 r] 23)).alloc (.cells #[.int .i64 0, .int .i64 0] 23)) := by
  refine ⟨((Kp.refl No w).alloc _).alloc _, (Blk.new w _ _).kp0 ((Kp.refl No _).alloc _), ?_⟩
  have h := Blk.new (w.alloc (.cells #[.int .i64 v, .int .i64 r] 23)) 23 #[.int .i64 0, .int .i64 0]
  rwa [show (w.alloc (.cells #[.int .i64 v, .int .i64 r] 23)).heap.size = w.heap.size + 1 from by simp] at h
theorem Ones.put {a w : World} {v r : Int} (h : Ones a v r w) (u : Int) : Ones a u r (w.setCell ⟨a.heap.size, 0, none⟩ (.int .i64 u)) :=
  ⟨h.kept.setCell (p := ⟨a.heap.size, 0, none⟩) (.inr (Nat.le_refl _)) _, h.one.put 0 _, h.two.kp (Kp.set1 _ _ _ _) (fun e => by have : a.heap.size + 1 = a.heap.size := e; omega)⟩
theorem Ones.rem {a w : World} {v r : Int} (h : Ones a v r w) (u : Int) : Ones a v u (w.setCell ⟨a.heap.size, 1, none⟩ (.int .i64 u)) :=
  ⟨h.kept.setCell (p := ⟨a.heap.size, 1, none⟩) (.inr (Nat.le_refl _)) _, h.one.put 1 _, h.two.kp (Kp.set1 _ _ _ _) (fun e => by have : a.heap.size + 1 = a.heap.size := e; omega)⟩
theorem one_round {l W : Int} (h1 : 1 ≤ W) : (l - W) / W = l / W - 1 ∧ (l - W) % W = l % W := by
  constructor
  · rw [Int.sub_ediv_of_dvd _ (Int.dvd_refl W), Int.ediv_self (by omega)]
  · exact Int.sub_emod_right l W

theorem one_any (v r x : Int) (w : World) (h : can v r x = true) :
    Calls Try.prog 17 #[.agg #[.int .i64 v, .int .i64 r], .int .i64 x] w fun e w' =>
      e = .returned (.agg #[.int .i64 (v + (1048576 + r) / wt x), .int .i64 ((1048576 + r) % wt x)]) ∧ Kp No w w' := by
  obtain ⟨h1, h2, h3, h4⟩ := can_iff.1 h
  obtain ⟨hb1, hb2⟩ := wt_bd x
  clear h
  obtain ⟨g, hg⟩ : ∃ g, 1048576 + r = g := ⟨_, rfl⟩
  rw [hg]
  have hg0 : 0 ≤ g := by omega
  have hg1 : g ≤ 2097152 := by omega
  go_enter Try.func17, Try.ntmps17
  go_wp2_with fail
  refine (weight_any x _).mono ?_
  rintro e w1 ⟨rfl, rfl⟩
  go_wp2_with fail
  have H0 := hid (Ones.start w v r)
  go_loopw [6] (fun l w' => ∃ z u : Int, l = .int .i64 z ∧ 0 ≤ z ∧ z ≤ g ∧ 0 ≤ u ∧ u ≤ v + (g - z) ∧ Hid (u + z / wt x = v + g / wt x ∧ z % wt x = g % wt x ∧ Ones w u r w')) (fun l _ => (intOf l).toNat)
  case atStart => exact ⟨g, v, rfl, hg0, by omega, h1, by omega, hid ⟨rfl, rfl, H0.out⟩⟩
  case round =>
    obtain ⟨z, u, rfl, z0, z1, u0, u1, J⟩ := hrel
    obtain ⟨c0, c1, lt⟩ := J.out.2.2.one.two
    have fz := J.out.2.2.one.frozen 0
    clear H0
    by_cases hl : wt x ≤ z
    · go_wp2
      go_roundw
      case rel =>
        obtain ⟨q1, q2⟩ := one_round (l := z) hb1
        refine ⟨z - wt x, u + 1, by go_num, by omega, by omega, by omega, by omega, hid ⟨by rw [q1]; have := J.out.1; omega, by rw [q2]; exact J.out.2.1, J.out.2.2.put _⟩⟩
      case measure => simp [intOf]; omega
    · have hd := decide_eq_false hl
      have fz1 := J.out.2.2.one.frozen 1
      obtain ⟨d0, d1, ld⟩ := J.out.2.2.two.two
      have fr0 := J.out.2.2.two.frozen 0
      have fr1 := J.out.2.2.two.frozen 1
      have eu : u = v + g / wt x := by
        have := J.out.1
        rwa [Int.ediv_eq_zero_of_lt z0 (by omega), Int.add_zero] at this
      have ez : z = g % wt x := by
        have := J.out.2.1
        rwa [Int.emod_eq_of_lt z0 (by omega)] at this
      have EU := hid eu
      have EZ := hid ez
      clear hl eu ez
      go_wp2
      refine bodyPost_ret (v := .agg #[.int .i64 u, .int .i64 z]) ?_ rfl ⟨by rw [← EU.out, ← EZ.out], kp_put (J.out.2.2.rem z).kept (Nat.le_succ _)⟩
      rw [results_cell rfl]
      go_simp
end Go.Proofs.Ytgkeljioefiljaa

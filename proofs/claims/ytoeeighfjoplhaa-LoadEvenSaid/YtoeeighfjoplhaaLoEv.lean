/-
  Load, where each may be anywhere: plain facts, and the document's list of a set.
-/
import Derived.Test.YtoeeighfjoplhaaLoOp
namespace Go.Proofs.Ytoeeighfjoplhaa
open Go.RowKit
/-- The cores below k of a set. -/
def cl (on k : Nat) : List Int := ((List.range k).filter fun i => on.testBit i).map fun i : Nat => (i : Int)
theorem cl_succ (on k : Nat) : cl on (k + 1) = cl on k ++ if on.testBit k then [(k : Int)] else [] := by
  unfold cl
  rw [List.range_succ, List.filter_append, List.map_append]
  cases h : on.testBit k <;> simp [List.filter, h]
theorem cl_len (on k : Nat) : (cl on k).length ≤ k := by
  unfold cl
  rw [List.length_map]
  exact Nat.le_trans (List.length_filter_le _ _) (by simp)
theorem mem_cl {on k : Nat} {x : Int} : x ∈ cl on k ↔ ∃ i : Nat, i < k ∧ x = (i : Int) ∧ on.testBit i = true := by
  unfold cl
  rw [List.mem_map]
  constructor
  · rintro ⟨i, hi, e⟩
    rw [List.mem_filter, List.mem_range] at hi
    exact ⟨i, hi.1, e.symm, hi.2⟩
  · rintro ⟨i, h1, h2, h3⟩
    exact ⟨i, by rw [List.mem_filter, List.mem_range]; exact ⟨h1, h3⟩, h2.symm⟩
theorem cl_nodup (on k : Nat) : (cl on k).Nodup := by
  unfold cl
  exact List.pairwise_map.2 (List.Pairwise.imp (fun h e => h (by omega)) (List.Pairwise.filter _ List.nodup_range))
/-- How many of the first n are on the core x. -/
def cn (ss : List St) (n : Nat) (x : Int) : Nat := (plcs ss x.toNat n).length
def sumL (f : Int → Nat) : List Int → Nat
  | [] => 0
  | x :: t => f x + sumL f t
theorem sumL_app (f : Int → Nat) (a b : List Int) : sumL f (a ++ b) = sumL f a + sumL f b := by
  induction a with
  | nil => simp [sumL]
  | cons x t ih => simp [sumL, ih]; omega
theorem sumL_zero {f : Int → Nat} {l : List Int} (h : ∀ x ∈ l, f x = 0) : sumL f l = 0 := by
  induction l with
  | nil => rfl
  | cons x t ih =>
    unfold sumL
    rw [h x List.mem_cons_self, ih fun y hy => h y (List.mem_cons_of_mem _ hy)]
theorem sumL_inc {f g : Int → Nat} {l : List Int} {c : Int} (hn : l.Nodup) (hc : c ∈ l) (h1 : g c = f c + 1) (h2 : ∀ x ∈ l, x ≠ c → g x = f x) : sumL g l = sumL f l + 1 := by
  induction l with
  | nil => cases hc
  | cons x t ih =>
    rw [List.nodup_cons] at hn
    unfold sumL
    by_cases e : x = c
    · subst e
      rw [h1]
      have : ∀ (u : List Int), (∀ y ∈ u, g y = f y) → sumL g u = sumL f u := fun u hu => by
        induction u with
        | nil => rfl
        | cons y u ih => unfold sumL; rw [hu y List.mem_cons_self, ih fun z hz => hu z (List.mem_cons_of_mem _ hz)]
      rw [this t fun y hy => h2 y (List.mem_cons_of_mem _ hy) (by rintro rfl; exact hn.1 hy)]
      omega
    · rw [h2 x List.mem_cons_self e, ih hn.2 ((List.mem_cons.1 hc).resolve_left fun q => e q.symm) fun y hy hne => h2 y (List.mem_cons_of_mem _ hy) hne]
      omega
theorem sumL_cn {ss : List St} {on : Nat} : ∀ n, n ≤ ss.length → (∀ i, i < n → (ss.getD i st0).core ∈ cl on 64) → sumL (cn ss n) (cl on 64) = n
  | 0, _, _ => sumL_zero fun x _ => by simp [cn, plcs]
  | n + 1, hn, h => by
    have key : ∀ x ∈ cl on 64, cn ss (n + 1) x = cn ss n x + if x = (ss.getD n st0).core then 1 else 0 := fun x hx => by
      obtain ⟨j, _, rfl, _⟩ := mem_cl.1 hx
      unfold cn
      rw [Int.toNat_natCast, plcs_succ, List.length_append]
      by_cases he : (ss.getD n st0).core = (j : Int)
      · rw [if_pos he, if_pos he.symm]; rfl
      · rw [if_neg he, if_neg fun q => he q.symm]; rfl
    have := sumL_inc (f := cn ss n) (g := cn ss (n + 1)) (cl_nodup on 64) (h n (by omega)) (by rw [key _ (h n (by omega)), if_pos rfl]) fun x hx hne => by rw [key x hx, if_neg hne, Nat.add_zero]
    rw [this, sumL_cn n (by omega) fun i hi => h i (by omega)]
theorem cn_cnt (ss : List St) (k : Nat) : cn ss ss.length (k : Int) = cnt ss k := by
  unfold cn cnt
  rw [Int.toNat_natCast]
/-- All on cores that are online, each may be anywhere, none to be moved: the loads differ by one at most. -/
theorem even_any {on : Nat} {s : List St} (h0 : Mv0 on s) (hcs : ∀ i, i < s.length → ∀ g, g < 64 → (s.getD i st0).cs.testBit g = true) {a b : Nat} (ha : a < 64) (hb : b < 64) (hao : on.testBit a = true) (hbo : on.testBit b = true) : cnt s a ≤ cnt s b + 1 := by
  by_cases h : cnt s a = 0
  · omega
  · have : 0 < (plcs s a s.length).length := Nat.pos_of_ne_zero h
    obtain ⟨x, hx⟩ := List.exists_mem_of_length_pos this
    obtain ⟨p, hp, _, hc⟩ := mem_plcs.1 hx
    exact h0 a ha hao p hp hc b hb hbo (hcs p hp b hb)
set_option maxRecDepth 100000 in
set_option maxHeartbeats 4000000 in
theorem rall_any {w : World} {s : Nat} (hs : U64 s) :
    Calls Try.prog 23 #[.int .u64 (s : Int)] w fun e w' => ∃ b c, e = .returned (gsl b (cl s 64).length c) ∧ RowI w' b (cl s 64).length c (cl s 64) ∧ (∀ k, b = some k → w.heap.size ≤ k) ∧ Kp No w w' := by
  have HS := hid hs
  clear hs
  go_enter Try.func23, Try.ntmps23
  go_wp2_with fail
  go_loopw [3, 4] (fun u v wr => ∃ (k n : Nat) (b : Option Nat) (cc : Nat), u = gsl b n cc ∧ v = .int .i64 (k : Int) ∧ k ≤ 64 ∧ Hid (n = (cl s k).length) ∧ Hid (RowI wr b n cc (cl s k)) ∧ Hid (∀ q, b = some q → w.heap.size ≤ q) ∧ Hid (Kp No w wr)) (fun _ v _ => 64 - (vNum v).toNat)
  case atStart => exact ⟨0, 0, none, 0, rfl, rfl, Nat.zero_le _, hid rfl, hid (RowI.nil _), hid (fun q e => by cases e), hid (Kp.refl _ _)⟩
  case round =>
    obtain ⟨k, n, b, cc, rfl, rfl, hk, HN, HB, HBB, HK⟩ := hrel
    have wk := wrapI (x := (k : Int) + 1) (by unfold I64; omega)
    have HC := hid (cl_succ s k)
    by_cases hlt : k < 64
    · have glt : (k : Int) < 64 := by omega
      cases hb : s.testBit k with
      | true =>
        have B1 := hid (show isIn s (k : Int) = true by rw [isIn_nat s k hlt, hb])
        rw [hb, if_pos rfl] at HC
        clear hb
        go_wp2_with (first
          | (go_at_call 21; refine (refHas_any s (k : Int) _ HS.out).mono ?_; rw [B1.out]; rintro e w4 ⟨rfl, rfl⟩)
          | (refine wp_row rfl (.tmp 12) (.tmp 14) rfl (b := b) (n := n) (c := cc) (ks := cl s k) (y := (k : Int)) (by rfl) (by exact HB.out.kp0 ((Kp.refl No _).alloc _)) (by rfl) (by exact (Blk.new _ _ _).cell 0) (by have := cl_len s k; omega) ?_
             intro b5 c5 w5 r5 o5 k5; have R5 := hid r5; have O5 := hid o5; have K5 := hid k5; clear r5 o5 k5))
        go_roundw
        case rel =>
          refine ⟨k + 1, n + 1, b5, c5, rfl, by go_num, by omega, hid ?_, hid ?_, hid fun q hq => ?_, hid ?_⟩
          · rw [HC.out, List.length_append, HN.out]; rfl
          · rw [HC.out]
            exact R5.out
          · rcases O5.out with e | e
            · exact HBB.out q (e ▸ hq)
            · rw [e] at hq
              cases hq
              have := HK.out.size
              rw [World.size_alloc]
              omega
          · exact (HK.out.trans ((Kp.refl No _).alloc _)).step K5.out fun i hi e => by have := HBB.out i e; omega
        case measure => simp [vNum] <;> omega
      | false =>
        have B1 := hid (show isIn s (k : Int) = false by rw [isIn_nat s k hlt, hb])
        rw [hb, if_neg (by decide), List.append_nil] at HC
        clear hb
        go_wp2_with (go_at_call 21; refine (refHas_any s (k : Int) _ HS.out).mono ?_; rw [B1.out]; rintro e w4 ⟨rfl, rfl⟩)
        go_roundw
        case rel => exact ⟨k + 1, n, b, cc, rfl, by go_num, by omega, hid (by rw [HC.out]; exact HN.out), hid (by rw [HC.out]; exact HB.out), HBB, HK⟩
        case measure => simp [vNum] <;> omega
    · obtain rfl : k = 64 := by omega
      go_wp2_with fail
      go_ret
      exact ⟨b, cc, by rw [← HN.out]; rfl, by rw [← HN.out]; exact HB.out, HBB.out, HK.out⟩
end Go.Proofs.Ytoeeighfjoplhaa

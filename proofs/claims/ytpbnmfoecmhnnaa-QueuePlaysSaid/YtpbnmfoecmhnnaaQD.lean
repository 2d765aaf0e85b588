/-
  Contract of package queue: Weigh.
-/
import Derived.Test.YtpbnmfoecmhnnaaQC
namespace Go.Proofs.Ytpbnmfoecmhnnaa
open Go.RowKit

section
variable {w w' w1 w2 : World} {g mb sg : Nat} {S T : Nat → Prop} {s s' : Qs} {l : List Mb} {k n : Int}

def updM (l : List Mb) (k n : Int) : List Mb := l.map fun m => if m.id = k then weiM m n else m
theorem upd_id (m : Mb) : (if m.id = k then weiM m n else m).id = m.id := by split <;> rfl
theorem upd_it (m : Mb) : itM (if m.id = k then weiM m n else m) = itM m := by split <;> rfl
theorem updM_it : (updM l k n).map itM = l.map itM := by
  unfold updM
  rw [List.map_map]
  exact List.map_congr_left fun m _ => upd_it m
theorem updM_ids (h : Ids l) : Ids (updM l k n) := by
  unfold Ids updM
  rw [List.pairwise_map]
  exact h.imp fun {a b} hab => by rw [upd_id, upd_id]; exact hab
theorem updM_fin (h : Ids l) {m : Mb} (hm : finM l k = some m) (j : Int) : finM (updM l k n) j = if j = k then some (weiM m n) else finM l j := by
  by_cases e : j = k
  · subst e
    rw [if_pos rfl]
    have hmem : weiM m n ∈ updM l j n := List.mem_map.2 ⟨m, finM_mem hm, by rw [if_pos (finM_id hm)]⟩
    have := finM_of (updM_ids (n := n) (k := j) h) hmem
    rwa [show (weiM m n).id = m.id from rfl, finM_id hm] at this
  · rw [if_neg e]
    cases h1 : finM l j with
    | some x =>
      have hx : x.id ≠ k := by rw [finM_id h1]; exact e
      have hmem : x ∈ updM l k n := List.mem_map.2 ⟨x, finM_mem h1, by rw [if_neg hx]⟩
      have := finM_of (updM_ids (n := n) (k := k) h) hmem
      rwa [finM_id h1] at this
    | none =>
      refine finM_not fun x hx => ?_
      obtain ⟨y, hy, rfl⟩ := List.mem_map.1 hx
      rw [upd_id]
      exact finM_none h1 y hy
theorem wei_rem {r a : Int} (h0 : 0 ≤ r) (h1 : r < a) (hn : 1 ≤ n) : 0 ≤ r * n / a ∧ r * n / a < n := by
  refine ⟨Int.ediv_nonneg (Int.mul_nonneg h0 (by omega)) (by omega), ?_⟩
  refine Int.ediv_lt_of_lt_mul (by omega) ?_
  rw [Int.mul_comm n a]
  exact Int.mul_lt_mul_of_pos_right h1 (by omega)
theorem weiM_ok {b : Int} {m : Mb} (h : Ok b m) (h1 : 1 ≤ n) (h2 : n ≤ 1048576) : Ok b (weiM m n) :=
  ⟨h.i1, h.i2, h1, h2, h.v1, h.v2, (wei_rem h.r1 h.r2 h1).1, (wei_rem h.r1 h.r2 h1).2⟩
theorem QOk.upd (h : QOk s) (h1 : 1 ≤ n) (h2 : n ≤ 1048576) : QOk ⟨s.base, updM s.l k n⟩ :=
  ⟨h.b1, h.b2, fun m hm => by
    obtain ⟨y, hy, rfl⟩ := List.mem_map.1 hm
    split
    · exact weiM_ok (h.ok y hy) h1 h2
    · exact h.ok y hy, updM_ids h.ids, by rw [updM_it]; exact h.srt, by simp only [updM, List.length_map]; exact h.len⟩

set_option maxRecDepth 100000 in
set_option maxHeartbeats 1000000 in
theorem weigh_none (h : Qu w g mb sg T s) (hk : I64 k) (n : Int) (hf : finM s.l k = none) :
    Calls Try.prog 53 #[.pointer (some ⟨g, 0, none⟩), .int .i64 k, .int .i64 n] w fun e w' => e = .returned (.int .i64 8) ∧ Kp No w w' := by
  have c0 := h.hd.cell 0
  simp at c0
  have hgl := h.hd.lt
  have l1 := h.mp.look_none hk hf
  simp only [ev, mb0] at l1
  clear h hf
  go_enter Try.func53, Try.ntmps53
  go_wp2_with fail
  go_ret
  exact ⟨rfl, (Kp.refl No w).alloc _⟩

set_option maxRecDepth 100000 in
set_option maxHeartbeats 1000000 in
theorem weigh_is (h : Qu w g mb sg T s) {m : Mb} (n : Int) (hf : finM s.l k = some m) :
    Calls Try.prog 53 #[.pointer (some ⟨g, 0, none⟩), .int .i64 k, .int .i64 n] w fun e w' => e = .returned (.int .i64 (weighE s k n)) ∧ OpR w w' g mb sg T (weighS s k n) := by
  have c0 := h.hd.cell 0
  simp at c0
  have hgl := h.hd.lt
  have hml := h.mp.lt
  obtain rfl := finM_id hf
  have ok := h.ok.ok m (finM_mem hf)
  have l1 := h.mp.look_some ok.id64 hf true
  simp only [ev, if_true] at l1
  have H := hid h
  have HF := hid hf
  have OK := hid ok
  have k1 := (Kp.refl No w).alloc (.cells #[.int .i64 m.w, .int .i64 m.v, .int .i64 m.r] 123)
  have b1 := Blk.new w 123 #[.int .i64 m.w, .int .i64 m.v, .int .i64 m.r]
  have EN := hid (show weighE s m.id n = if n < 1 ∨ 1048576 < n then 1 else 0 by unfold weighE; rw [hf])
  clear h hf ok
  go_enter Try.func53, Try.ntmps53
  go_wp2_with fail
  generalize w.alloc (.cells #[.int .i64 m.w, .int .i64 m.v, .int .i64 m.r] 123) = w1 at k1 b1 ⊢
  clear l1 c0
  have K1 := hid k1
  have B1 := hid b1
  have Q1 := hid (H.out.trim.kp0 k1)
  clear k1 b1
  refine (isW_any n _).mono ?_
  rintro e w2 ⟨rfl, rfl⟩
  by_cases hn : 1 ≤ n ∧ n ≤ 1048576
  · have q := hid (show (decide (1 ≤ n) && decide (n ≤ 1048576)) = true by simp [hn])
    have e : weighE s m.id n = 0 := by rw [EN.out, if_neg (by omega)]
    have wq := hid (show weighS s m.id n = ⟨s.base, updM s.l m.id n⟩ by unfold weighS; rw [if_pos e]; rfl)
    have E := hid e
    clear e EN
    rw [q.out]
    clear q
    go_wp2_with fail
    have F : Hid (∀ w', Kp No w2 w' → w'.cell? ⟨g, 0, none⟩ = some (.map (some mb)) ∧ w'.cell? ⟨w.heap.size, 0, none⟩ = some (.int .i64 m.w) ∧ w'.cell? ⟨w.heap.size, 1, none⟩ = some (.int .i64 m.v) ∧ w'.cell? ⟨w.heap.size, 2, none⟩ = some (.int .i64 m.r)) := hid fun w' hw => by
      have a0 := (Q1.out.hd.kp0 hw).cell 0
      have b0 := (B1.out.kp0 hw).cell 0
      have b1 := (B1.out.kp0 hw).cell 1
      have b2 := (B1.out.kp0 hw).cell 2
      exact ⟨by simpa using a0, by simpa using b0, by simpa using b1, by simpa using b2⟩
    have HN := hid hn
    clear hn
    have RW := hid (show m.r < wt m.w by rw [wt_in OK.out.w1 OK.out.w2]; exact OK.out.r2)
    have RD := hid (show m.r * wt n / wt m.w = m.r * n / m.w by rw [wt_in OK.out.w1 OK.out.w2, wt_in HN.out.1 HN.out.2])
    refine region_class (fun w' => Kp No w2 w') 13 rfl (by kernel_rfl) (by kernel_rfl) (by kernel_rfl) ((Kp.refl No w2).drew) ?_
    simp only [List.take_succ_cons, List.take_zero]
    repeat ((first | ((with_reducible refine cl_val (v := ?_) ?_ ?_ ?_); rotate_left; (focus (go_simp; done)); (focus (intro w' hw; obtain ⟨a0, b0, b1, b2⟩ := F.out w' hw; go_simp; (try with_reducible rfl); done))) | ((with_reducible refine cl_skip ?_ ?_); (focus (first | (go_simp; done) | exact unwanted rfl rfl)))); simp only [Act.put, List.setIfInBounds_toArray, List.set_cons_zero, List.set_cons_succ])
    refine cl_call (v := .agg #[.int .i64 m.v, .int .i64 (m.r * n / m.w)]) rfl (fun w' hw => by go_simp) (fun w' hw => (reweigh_is OK.out.r1 RW.out RD.out).mono fun e w'' h => ⟨h.1, hw.trans h.2⟩) ?_
    simp only [Act.put, List.setIfInBounds_toArray, List.set_cons_zero, List.set_cons_succ]
    repeat ((first | ((with_reducible refine cl_val (v := ?_) ?_ ?_ ?_); rotate_left; (focus (go_simp; done)); (focus (intro w' hw; obtain ⟨a0, b0, b1, b2⟩ := F.out w' hw; go_simp; (try with_reducible rfl); done))) | ((with_reducible refine cl_skip ?_ ?_); (focus (first | (go_simp; done) | exact unwanted rfl rfl)))); simp only [Act.put, List.setIfInBounds_toArray, List.set_cons_zero, List.set_cons_succ])
    refine cl_nil fun w' hw => ?_
    obtain ⟨w5, hrun, m5, k5⟩ := (Q1.out.mp.kp hw fun h => h).put (l' := updM s.l m.id n) (weiM m n) OK.out.id64 (by have := H.out.ok.len; simp [maxLen]; omega) (by rw [show (weiM m n).id = m.id from rfl, HF.out]; simp [updM]) (fun j => updM_fin H.out.ok.ids HF.out j)
    simp only [ev, weiM] at hrun
    have q3 := Q1.out.kp0 hw
    have R : Hid (OpR w w5 g mb sg T (weighS s m.id n)) := hid (by
      rw [wq.out]
      refine OpR.of H.out K1.out ((hw.all).step k5 fun i _ e => .inr (.inl e)) ⟨q3.hd.kp k5 fun e => q3.ne e, m5, ?_, q3.ne, q3.tg, q3.tm, H.out.ok.upd HN.out.1 HN.out.2⟩
      rw [updM_it]
      exact q3.shf.kp k5 fun i hi e => q3.tm (by have : i = mb := e; rwa [this] at hi))
    clear m5 k5 q3 hw
    go_wp2_with fail
    go_ret
    exact ⟨by rw [E.out]; rfl, R.out⟩
  · have q := hid (show (decide (1 ≤ n) && decide (n ≤ 1048576)) = false by
      cases a1 : decide (1 ≤ n) <;> cases a2 : decide (n ≤ 1048576) <;> first | rfl | exact absurd ⟨of_decide_eq_true a1, of_decide_eq_true a2⟩ hn)
    have e : weighE s m.id n = 1 := by rw [EN.out, if_pos (by omega)]
    have wq := hid (show weighS s m.id n = s by unfold weighS; rw [if_neg (by omega)])
    have E := hid e
    clear e EN
    rw [q.out]
    clear q hn
    go_wp2_with fail
    go_ret
    exact ⟨by rw [E.out]; rfl, by rw [wq.out]; exact OpR.same H.out K1.out⟩
end
end Go.Proofs.Ytpbnmfoecmhnnaa

/-
  Contract of hall's enter.
-/
import Derived.Test.YtoeeighfjoplhaaLoHl
import Derived.Test.YtoeeighfjoplhaaLoQ
import Derived.Test.YtoeeighfjoplhaaLoB
import Derived.Test.YtoeeighfjoplhaaLas2
import Derived.Deep.MidRow
namespace Go.Proofs.Ytoeeighfjoplhaa
open Go.RowKit
/-- A hall without places. -/
theorem zhall (sv : Value) : (Try.zeroCells64.setIfInBounds 0 sv)[0]? = some sv ∧ ∀ k, k < 64 → (Try.zeroCells64.setIfInBounds 0 sv)[1 + k]? = some (gsl none 0 0) := by
  have e : Try.zeroCells64 = (List.replicate 65 (Value.slice none 0 0)).toArray := by kernel_rfl
  rw [e]
  refine ⟨rfl, fun k hk => ?_⟩
  rw [Array.getElem?_setIfInBounds_ne (by omega), List.getElem?_toArray, List.getElem?_replicate, if_pos (by omega)]
  rfl
theorem Hl.start {w : World} (sv : Value) : Hl (w.alloc (.cells (Try.zeroCells64.setIfInBounds 0 sv) 64)) w.heap.size w.heap.size sv (fun _ => none) (fun _ => 0) (fun _ => []) :=
  ⟨⟨_, Blk.new w _ _, (zhall sv).1, fun k hk => (zhall sv).2 k hk⟩, fun k hk => RowI.nil _, fun k hk e => (by cases e), fun j k hj hk hjk b e => (by cases e), Nat.le_refl _, fun k hk b e => (by cases e)⟩
theorem Hl.eq {w : World} {Bd hb : Nat} {sv : Value} {bs : Nat → Option Nat} {cp : Nat → Nat} {P P' : Nat → List Int} (h : Hl w Bd hb sv bs cp P) (e : ∀ k, k < 64 → P k = P' k) : Hl w Bd hb sv bs cp P' := by
  obtain ⟨cs, h1, h2, h3⟩ := h.bx
  exact ⟨⟨cs, h1, h2, fun k hk => by rw [← e k hk]; exact h3 k hk⟩, fun k hk => by rw [← e k hk]; exact h.rows k hk, h.ne, h.dis, h.lo, h.los⟩
/-- Ahead of the append: the hall, and the seat in its block. -/
structure En (sb Bd hb : Nat) (sv : Value) (bs : Nat → Option Nat) (cp : Nat → Nat) (P : Nat → List Int) (s : St) (k : Nat) (W0 W : World) : Prop where
  h : Hl W Bd hb sv bs cp P
  b : Blk W sb 38 #[.int .i64 s.id, .int .i64 s.core, .int .u64 (s.cs : Int)]
  kp : Kp No W0 W
theorem En.kp0 {sb Bd hb : Nat} {sv : Value} {bs : Nat → Option Nat} {cp : Nat → Nat} {P : Nat → List Int} {s : St} {k : Nat} {W0 W W' : World} (h : En sb Bd hb sv bs cp P s k W0 W) (kk : Kp No W W') : En sb Bd hb sv bs cp P s k W0 W' := ⟨h.h.kp0 kk, h.b.kp0 kk, h.kp.trans kk⟩
theorem En.both {sb Bd hb : Nat} {sv : Value} {bs : Nat → Option Nat} {cp : Nat → Nat} {P : Nat → List Int} {s : St} {k : Nat} {W0 W : World} (h : En sb Bd hb sv bs cp P s k W0 W) (hk : k < 64) (hc : s.core = (k : Int)) : W.cell? ⟨sb, 1, none⟩ = some (.int .i64 (k : Int)) ∧ W.cell? ⟨hb, 1 + k, none⟩ = some (gsl (bs k) (P k).length (cp k)) :=
  ⟨by rw [h.b.cell, ← hc]; rfl, h.h.cell hk⟩
/-- Behind the append. -/
structure En2 (sb Bd hb : Nat) (sv : Value) (bs : Nat → Option Nat) (cp : Nat → Nat) (P : Nat → List Int) (s : St) (k : Nat) (W0 W1 : World) (b' : Option Nat) (c' : Nat) (ks : List Int) (W : World) : Prop where
  e : En sb Bd hb sv bs cp P s k W0 W1
  r : RowI W b' ks.length c' ks
  o : b' = bs k ∨ ∀ j, b' = some j → W1.heap.size ≤ j
  kk : Kp (fun i => bs k = some i) W1 W
  ns : ¬ bs k = some sb
theorem En2.both {sb Bd hb : Nat} {sv : Value} {bs : Nat → Option Nat} {cp : Nat → Nat} {P : Nat → List Int} {s : St} {k : Nat} {W0 W1 W : World} {b' : Option Nat} {c' : Nat} {ks : List Int} (h : En2 sb Bd hb sv bs cp P s k W0 W1 b' c' ks W) (hk : k < 64) (hc : s.core = (k : Int)) : W.cell? ⟨sb, 1, none⟩ = some (.int .i64 (k : Int)) ∧ W.cell? ⟨hb, 1 + k, none⟩ = some (gsl (bs k) (P k).length (cp k)) := by
  obtain ⟨h1, h2⟩ := h.e.both hk hc
  exact ⟨(h.kk.cell (p := ⟨sb, 1, none⟩) (World.block_lt_of_cell? W1 _ h1) h.ns).trans h1, (h.kk.cell (p := ⟨hb, 1 + k, none⟩) (World.block_lt_of_cell? W1 _ h2) (h.e.h.ne k hk)).trans h2⟩
theorem arrU : Try.prog.underlying 62 = some (.array 64 24) := by kernel_rfl
theorem arrS : (Try.prog.info? 62).map (·.size) = some 64 := by kernel_rfl
theorem run_row64 {vs : List Value} (hv : vs.length = 64) {k : Nat} (hk : k < 64) {v : Value} (h : vs[k]? = some v) (w : World) : Sem.run Try.prog (Instr.index 62 (.agg vs.toArray) (.int .i64 (k : Int))) w = .ok v w := by
  have h1 : (0 : Int) ≤ (k : Int) ∧ (k : Int) < 64 := by omega
  have hs : ∀ w, (Go.sizeOf 24).run Try.prog w = .ok 1 w := fun w => by go_simp
  have ha : ∀ w, (isAgg 24).run Try.prog w = .ok false w := fun w => by go_simp
  have hk2 : k < vs.length := by omega
  have e : vs[k] = v := by
    rw [List.getElem?_eq_getElem hk2] at h
    exact Option.some.inj h
  simp [Instr.index, asIntOf, run_underlying arrU, h1, hs, part, ha, hk, hk2, e]
theorem Rw.oldP {α : Type} {n : Nat} {f : α → Nat → Value} {d : α} {w : World} {P : Nat → Prop} {v : Value} {xs : List α} (h : Rw n f d w P v xs) : Rw n f d w (fun i => i < w.heap.size) v xs := by
  obtain ⟨A, c, rfl, h1, h2, h⟩ := h
  refine ⟨A, c, rfl, h1, h2, fun h0 => ?_⟩
  obtain ⟨b, o, h3, h4, _, h5⟩ := h h0
  exact ⟨b, o, h3, h4, h4, h5⟩
theorem Rw.anyP {α : Type} {n : Nat} {f : α → Nat → Value} {d : α} {w : World} {P : Nat → Prop} {v : Value} {xs : List α} (h : Rw n f d w P v xs) : Rw n f d w Anyb v xs := by
  obtain ⟨A, c, rfl, h1, h2, h⟩ := h
  refine ⟨A, c, rfl, h1, h2, fun h0 => ?_⟩
  obtain ⟨b, o, h3, h4, _, h5⟩ := h h0
  exact ⟨b, o, h3, h4, trivial, h5⟩
set_option maxRecDepth 100000 in
set_option maxHeartbeats 4000000 in
theorem enter_any {w : World} {A : Option Addr} {n c : Nat} {ss : List St} (hs : Rw 3 sc st0 w Anyb (.slice A n c) ss) (hn : ss.length = n) (hn40 : n ≤ 40) :
    Calls Try.prog 32 #[.slice A n c] w fun e w' => ∃ hb bs cp P, e = .returned (.pointer (some ⟨hb, 0, none⟩)) ∧ Hl w' w.heap.size hb (.slice A n c) bs cp P ∧ (∀ k, k < 64 → Rk ss k (P k)) ∧ Kp No w w' := by
  have HS := hid hs.oldP
  have mixed : Try.prog.follows .mixedOrders = true := by kernel_rfl
  clear hs
  go_enter Try.func32, Try.ntmps32
  go_upto_region 3 with (go_at_call 25; refine (up_any 64 _).mono ?_; rintro e w4 ⟨rfl, rfl⟩)
  have H0 := hid (Hl.start (w := w) (.slice A n c))
  have K0 := hid ((Kp.refl No w).alloc (.cells (Try.zeroCells64.setIfInBounds 0 (.slice A n c)) 64))
  obtain ⟨hb, hhb⟩ : ∃ q, w.heap.size = q := ⟨_, rfl⟩
  rw [hhb] at H0 ⊢
  generalize w.alloc (.cells (Try.zeroCells64.setIfInBounds 0 (.slice A n c)) 64) = w1 at H0 K0 ⊢
  have HHB := hid hhb
  clear hhb
  obtain ⟨up64, hup⟩ : ∃ q, up 64 = q := ⟨_, rfl⟩
  have HU := hid (show U64 up64 ∧ ∀ x : Int, isIn up64 x = decide (0 ≤ x ∧ x < 64) from by
    subst hup
    refine ⟨up_U64 64, fun x => ?_⟩
    by_cases hx : 0 ≤ x ∧ x < 64
    · obtain ⟨i, rfl⟩ : ∃ i : Nat, x = (i : Int) := ⟨x.toNat, by omega⟩
      rw [isIn_nat _ _ (by omega), up_bit]
      congr 1
      simp only [eq_iff_iff]
      omega
    · rw [isIn_out _ _ hx]
      exact (decide_eq_false hx).symm)
  rw [hup]
  clear hup
  go_wp2_with fail
  go_loopw [15] (fun u wr => ∃ i : Nat, u = .int .i64 (i : Int) ∧ i ≤ n ∧ Hid (∃ bs cp, Hl wr hb hb (.slice A n c) bs cp (fun k => plcs ss k i)) ∧ Hid (Kp No w wr)) (fun u _ => n - (vNum u).toNat)
  case atStart => exact ⟨0, rfl, Nat.zero_le _, hid ⟨_, _, H0.out⟩, K0⟩
  case round =>
    clear H0
    obtain ⟨i, rfl, hin, HG, HK⟩ := hrel
    have wi := wrapI (x := (i : Int) + 1) (by unfold I64; omega)
    by_cases hlt : i < n
    · have glt : (i : Int) < (n : Int) := by omega
      obtain ⟨bs, cp, hg⟩ := HG.out
      have HG1 := hid hg
      clear hg HG
      obtain ⟨ba, oa, rfl⟩ := HS.out.there (by omega)
      have q0 := HS.out.cell (j := i) (i := 0) HK.out (by omega) (by omega) rfl
      have q1 := HS.out.cell (j := i) (i := 1) HK.out (by omega) (by omega) rfl
      have q2 := HS.out.cell (j := i) (i := 2) HK.out (by omega) (by omega) rfl
      obtain ⟨s, hs⟩ : ∃ s, ss.getD i st0 = s := ⟨_, rfl⟩
      rw [hs] at q0 q1 q2
      have HSS := hid hs
      simp only [sc, Nat.add_zero] at q0 q1 q2
      rw [← Nat.add_assoc] at q1 q2
      clear hs
      have HHAS := hid (fun (W : World) (x : Int) => has_any up64 x W HU.out.1)
      by_cases hin64 : 0 ≤ s.core ∧ s.core < 64
      · obtain ⟨k, hk⟩ : ∃ k : Nat, s.core = (k : Int) := ⟨s.core.toNat, by omega⟩
        have HKC := hid hk
        rw [hk] at q1 hin64
        have hisin : isIn up64 (k : Int) = true := by rw [HU.out.2]; exact decide_eq_true hin64
        go_upto_region 7 with (first | (go_at_call 27; refine (HHAS.out _ _).mono ?_; rw [hisin]; rintro e w4 ⟨rfl, rfl⟩))
        have hk64 : k < 64 := by omega
        have HE := hid (show En wr.heap.size hb hb (.slice (some ⟨ba, oa, none⟩) n c) bs cp (fun k => plcs ss k i) s k wr (wr.alloc (.cells #[.int .i64 s.id, .int .i64 s.core, .int .u64 (s.cs : Int)] 38)) from
          ⟨HG1.out.kp0 ((Kp.refl No wr).alloc _), Blk.new wr _ _, (Kp.refl No wr).alloc _⟩)
        have HNS := hid (show ¬ bs k = some wr.heap.size from fun e => by
          have := HG1.out.rows k hk64
          rw [e] at this
          have := this.lt
          omega)
        rw [HKC.out] at HE
        (try rw [HKC.out])
        obtain ⟨sb, hsb⟩ : ∃ q, wr.heap.size = q := ⟨_, rfl⟩
        rw [hsb] at HE HNS ⊢
        generalize wr.alloc (.cells #[.int .i64 s.id, .int .i64 (k : Int), .int .u64 (s.cs : Int)] 38) = w5 at HE ⊢
        have gk0 : (0 : Int) ≤ (k : Int) := by omega
        have gk64 : (k : Int) < 64 := by omega
        have HLEN := hid (plcs_len ss k i)
        refine region_lass 16 rfl (by kernel_rfl) (by kernel_rfl) ?_
        simp only [List.take_succ_cons, List.take_zero, List.length_cons, List.length_nil, Nat.reduceAdd]
        have Fd1 := hid (HE.out.kp0 (Kp.refl No w5).drew)
        generalize World.drew w5 = Wd1 at Fd1 ⊢
        have HS5 : (fun w' : World => w'.cell? ⟨sb, 1, none⟩ = some (.int .i64 (k : Int)) ∧ w'.cell? ⟨hb, 1 + k, none⟩ = some (gsl (bs k) (plcs ss k i).length (cp k))) Wd1 := Fd1.out.both hk64 HKC.out
        (try simp only at HS5)
        refine wpAny_of_held (S := (fun w' : World => w'.cell? ⟨sb, 1, none⟩ = some (.int .i64 (k : Int)) ∧ w'.cell? ⟨hb, 1 + k, none⟩ = some (gsl (bs k) (plcs ss k i).length (cp k)))) _ _ _ _ ?_
        simp only [Array.replicate_succ, Array.replicate_zero, List.push_toArray, List.nil_append, List.cons_append]
        refine wpAnyH_take (i := 0) (v := ?_) rfl (by kernel_rfl) (by kernel_rfl) (by kernel_rfl) (fun _ _ _ h => h) (Or.inl ⟨by rfl, ?_⟩) HS5 ?_
        rotate_left
        · (intro w6 hS6; obtain ⟨z0, z1⟩ := hS6; (try go_simp); (try with_reducible rfl))
        simp only [List.getElem_toArray, List.getElem_cons_zero, Act.put, List.setIfInBounds_toArray, List.set_cons_zero, List.set_cons_succ]
        refine wpAnyH_take (i := 1) (v := ?_) rfl (by kernel_rfl) (by kernel_rfl) (by kernel_rfl) (fun _ _ _ h => h) (Or.inl ⟨by rfl, ?_⟩) HS5 ?_
        rotate_left
        · (intro w6 hS6; obtain ⟨z0, z1⟩ := hS6; (try go_simp); (try with_reducible rfl))
        simp only [List.getElem_toArray, List.getElem_cons_zero, List.getElem_cons_succ, Act.put, List.setIfInBounds_toArray, List.set_cons_zero, List.set_cons_succ]
        refine wpAnyH_take (i := 2) (v := ?_) rfl (by kernel_rfl) (by kernel_rfl) (by kernel_rfl) (fun _ _ _ h => h) (Or.inl ⟨by rfl, ?_⟩) HS5 ?_
        rotate_left
        · (intro w6 hS6; obtain ⟨z0, z1⟩ := hS6; (try go_simp); (try with_reducible rfl))
        simp only [List.getElem_toArray, List.getElem_cons_zero, List.getElem_cons_succ, Act.put, List.setIfInBounds_toArray, List.set_cons_zero, List.set_cons_succ]
        refine wpAnyH_take (i := 3) (v := ?_) rfl (by kernel_rfl) (by kernel_rfl) (by kernel_rfl) (fun _ _ _ h => h) (Or.inl ⟨by rfl, ?_⟩) HS5 ?_
        rotate_left
        · (intro w6 hS6; obtain ⟨z0, z1⟩ := hS6; (try go_simp); (try with_reducible rfl))
        simp only [List.getElem_toArray, List.getElem_cons_zero, List.getElem_cons_succ, Act.put, List.setIfInBounds_toArray, List.set_cons_zero, List.set_cons_succ]
        refine wpAnyH_take (i := 4) (v := ?_) rfl (by kernel_rfl) (by kernel_rfl) (by kernel_rfl) (fun _ _ _ h => h) (Or.inl ⟨by rfl, ?_⟩) HS5 ?_
        rotate_left
        · (intro w6 hS6; obtain ⟨z0, z1⟩ := hS6; (try go_simp); (try with_reducible rfl))
        simp only [List.getElem_toArray, List.getElem_cons_zero, List.getElem_cons_succ, Act.put, List.setIfInBounds_toArray, List.set_cons_zero, List.set_cons_succ]
        refine wpAnyH_take (i := 5) (v := ?_) rfl (by kernel_rfl) (by kernel_rfl) (by kernel_rfl) (fun _ _ _ h => h) (Or.inl ⟨by rfl, ?_⟩) HS5 ?_
        rotate_left
        · (intro w6 hS6; obtain ⟨z0, z1⟩ := hS6; (try go_simp); (try with_reducible rfl))
        simp only [List.getElem_toArray, List.getElem_cons_zero, List.getElem_cons_succ, Act.put, List.setIfInBounds_toArray, List.set_cons_zero, List.set_cons_succ]
        refine wpAnyH_take (i := 6) (v := ?_) rfl (by kernel_rfl) (by kernel_rfl) (by kernel_rfl) (fun _ _ _ h => h) (Or.inl ⟨by rfl, ?_⟩) HS5 ?_
        rotate_left
        · (intro w6 hS6; obtain ⟨z0, z1⟩ := hS6; (try go_simp); (try with_reducible rfl))
        simp only [List.getElem_toArray, List.getElem_cons_zero, List.getElem_cons_succ, Act.put, List.setIfInBounds_toArray, List.set_cons_zero, List.set_cons_succ]
        refine wpAnyH_take (i := 7) (v := ?_) rfl (by kernel_rfl) (by kernel_rfl) (by kernel_rfl) (fun _ _ _ h => h) (Or.inl ⟨by rfl, ?_⟩) HS5 ?_
        rotate_left
        · (intro w6 hS6; obtain ⟨z0, z1⟩ := hS6; (try go_simp); (try with_reducible rfl))
        simp only [List.getElem_toArray, List.getElem_cons_zero, List.getElem_cons_succ, Act.put, List.setIfInBounds_toArray, List.set_cons_zero, List.set_cons_succ]
        refine wpAnyH_take (i := 8) (v := ?_) rfl (by kernel_rfl) (by kernel_rfl) (by kernel_rfl) (fun _ _ _ h => h) (Or.inl ⟨by rfl, ?_⟩) HS5 ?_
        rotate_left
        · (intro w6 hS6; obtain ⟨z0, z1⟩ := hS6; (try go_simp); (try with_reducible rfl))
        simp only [List.getElem_toArray, List.getElem_cons_zero, List.getElem_cons_succ, Act.put, List.setIfInBounds_toArray, List.set_cons_zero, List.set_cons_succ]
        refine wpAnyH_take (i := 9) (v := ?_) rfl (by kernel_rfl) (by kernel_rfl) (by kernel_rfl) (fun _ _ _ h => h) (Or.inl ⟨by rfl, ?_⟩) HS5 ?_
        rotate_left
        · (intro w6 hS6; obtain ⟨z0, z1⟩ := hS6; (try go_simp); (try with_reducible rfl))
        simp only [List.getElem_toArray, List.getElem_cons_zero, List.getElem_cons_succ, Act.put, List.setIfInBounds_toArray, List.set_cons_zero, List.set_cons_succ]
        refine wpAnyH_take (i := 10) (v := ?_) rfl (by kernel_rfl) (by kernel_rfl) (by kernel_rfl) (fun _ _ _ h => h) (Or.inl ⟨by rfl, ?_⟩) HS5 ?_
        rotate_left
        · (intro w6 hS6; obtain ⟨z0, z1⟩ := hS6; (try go_simp); (try with_reducible rfl))
        simp only [List.getElem_toArray, List.getElem_cons_zero, List.getElem_cons_succ, Act.put, List.setIfInBounds_toArray, List.set_cons_zero, List.set_cons_succ]
        refine wpAnyH_take (i := 13) (v := ?_) rfl (by kernel_rfl) (by kernel_rfl) (by kernel_rfl) (fun _ _ _ h => h) (Or.inl ⟨by rfl, ?_⟩) HS5 ?_
        rotate_left
        · (intro w6 hS6; obtain ⟨z0, z1⟩ := hS6; (try go_simp); (try with_reducible rfl))
        simp only [List.getElem_toArray, List.getElem_cons_zero, List.getElem_cons_succ, Act.put, List.setIfInBounds_toArray, List.set_cons_zero, List.set_cons_succ]
        refine wpAnyH_take (i := 14) (v := ?_) rfl (by kernel_rfl) (by kernel_rfl) (by kernel_rfl) (fun _ _ _ h => h) (Or.inl ⟨by rfl, ?_⟩) HS5 ?_
        rotate_left
        · (intro w6 hS6; obtain ⟨z0, z1⟩ := hS6; (try go_simp); (try with_reducible rfl))
        simp only [List.getElem_toArray, List.getElem_cons_zero, List.getElem_cons_succ, Act.put, List.setIfInBounds_toArray, List.set_cons_zero, List.set_cons_succ]
        clear HS5
        refine wpAnyH_ready (rs := [11]) (by kernel_rfl) (by simp) (AllReadyH.cons rfl (fun K hK => ?_) AllReadyH.nil)
        simp only [List.getElem_toArray, List.getElem_cons_zero, List.getElem_cons_succ]
        go_simp
        have Un2 := hid (Blk.new Wd1 3 #[.int .i64 (i : Int)])
        have Fn2 := hid (Fd1.out.kp0 ((Kp.refl No Wd1).alloc (.cells #[.int .i64 (i : Int)] 3)))
        obtain ⟨bu2, hbu⟩ : ∃ b, Wd1.heap.size = b := ⟨_, rfl⟩
        rw [hbu] at Un2 ⊢
        generalize Wd1.alloc (.cells #[.int .i64 (i : Int)] 3) = wn2 at Un2 Fn2 ⊢
        clear hbu Fd1
        refine hK.out _ _ (Fn2.out.both hk64 HKC.out) (fun hS => ?_)
        clear hK
        simp only [List.setIfInBounds_toArray, List.set_cons_zero, List.set_cons_succ]
        clear hS
        refine wpAnyH_ready (rs := [12]) (by kernel_rfl) (by simp) (AllReadyH.cons rfl (fun K hK => ?_) AllReadyH.nil)
        refine step_row (by rfl) (.tmp 33) (.tmp 35) (by rfl) (b := bs k) (n := (plcs ss k i).length) (c := cp k) (ks := plcs ss k i) (y := (i : Int)) (by rfl) (Fn2.out.h.rows k hk64) (by rfl) (Un2.out.cell 0) (by have := HLEN.out; omega) ?_
        intro b3 c3 wn3 hr ho hkk
        have Fn3 := hid (show En2 sb hb hb (.slice (some ⟨ba, oa, none⟩) n c) bs cp (fun k => plcs ss k i) s k wr wn2 b3 c3 (plcs ss k i ++ [(i : Int)]) wn3 from ⟨Fn2.out, by rw [List.length_append]; exact hr, ho.imp id (fun e j hj => by rw [e] at hj; cases hj; exact Nat.le_refl _), hkk, HNS.out⟩)
        clear hr ho hkk Fn2 Un2
        refine hK.out _ _ (Fn3.out.both hk64 HKC.out) (fun hS => ?_)
        clear hK
        simp only [List.setIfInBounds_toArray, List.set_cons_zero, List.set_cons_succ, Act.put]
        refine wpAnyH_take (i := 15) (v := ?_) rfl (by kernel_rfl) (by kernel_rfl) (by kernel_rfl) (fun _ _ _ h => h) (Or.inl ⟨by rfl, ?_⟩) hS ?_
        rotate_left
        · (intro w6 hS6; obtain ⟨z0, z1⟩ := hS6; (try go_simp); (try with_reducible rfl))
        simp only [List.getElem_toArray, List.getElem_cons_zero, List.getElem_cons_succ, Act.put, List.setIfInBounds_toArray, List.set_cons_zero, List.set_cons_succ]
        clear hS
        refine wpAnyH_done (by kernel_rfl) ?_ _
        refine then_of ?_
        simp only [List.cons_append, List.nil_append]
        obtain ⟨_, cq⟩ := Fn3.out.both hk64 HKC.out
        have fq : wn3.frozen? ⟨hb, 1 + k, none⟩ = false := by
          obtain ⟨cs, hx, _, _⟩ := (Fn3.out.e.h.part hk64 Fn3.out.kk).1
          exact hx.frozen _
        simp only [gsl]
        go_wp2_with fail
        have HF := hid (Fn3.out.e.h.set hk64 Fn3.out.kk Fn3.out.r Fn3.out.o)
        have KF := hid (((HK.out.trans Fn3.out.e.kp).step Fn3.out.kk fun i hi e => by
          have := HG1.out.los k hk64 i e
          have := HHB.out
          omega).step (Kp.set1 hb (1 + k) wn3 (gsl b3 (plcs ss k i ++ [(i : Int)]).length c3)) fun i hi e => by
          have e : i = hb := e
          have := HHB.out
          omega)
        have el : (plcs ss k i ++ [(i : Int)]).length = (plcs ss k i).length + 1 := by rw [List.length_append]; rfl
        rw [el] at HF KF
        clear el cq fq
        go_roundw
        case rel =>
          refine ⟨i + 1, by go_num, by omega, hid ⟨_, _, HF.out.eq fun j hj => ?_⟩, KF⟩
          rw [plcs_succ, HSS.out, HKC.out]
          by_cases e : j = k
          · subst e; rw [upd_at, if_pos rfl]
          · rw [upd_ne _ _ e, if_neg (by omega), List.append_nil]
        case measure => simp [vNum] <;> omega
      · have hisin : isIn up64 s.core = false := by rw [HU.out.2]; exact decide_eq_false hin64
        go_wp2_with (first | (go_at_call 27; refine (HHAS.out _ _).mono ?_; rw [hisin]; rintro e w4 ⟨rfl, rfl⟩))
        go_roundw
        case rel =>
          refine ⟨i + 1, by go_num, by omega, hid ⟨bs, cp, (HG1.out.kp0 ((Kp.refl No wr).alloc _)).eq fun k hk => ?_⟩, hid (HK.out.alloc _)⟩
          rw [plcs_succ, HSS.out, if_neg (by omega), List.append_nil]
        case measure => simp [vNum] <;> omega
    · obtain rfl : i = n := by omega
      have glt : ¬ (i : Int) < (i : Int) := by omega
      obtain ⟨bs, cp, hg⟩ := HG.out
      have HG1 := hid hg
      clear hg HG
      have HN := hid hn
      obtain ⟨vs, hvs⟩ : ∃ vs, vs = (List.range 64).map fun k => gsl (bs k) (plcs ss k i).length (cp k) := ⟨_, rfl⟩
      have HVL := hid (show vs.length = 64 from by rw [hvs]; simp)
      have HVA := hid (show ∀ k, k < 64 → vs[k]? = some (gsl (bs k) (plcs ss k i).length (cp k)) from fun k hk => by rw [hvs]; simp [hk])
      clear hvs
      have HRG := hid (show wr.rangeAt hb 1 vs from fun j v hv => by
        have hj : j < 64 := by have := (List.getElem?_eq_some_iff.1 hv).1; have := HVL.out; omega
        have h1 := HVA.out j hj
        rw [hv] at h1
        cases h1
        exact HG1.out.cell hj)
      go_upto_region 10 with (refine wpList_load_mid rfl _ (.tmp 43) rfl hb 1 (by rfl) vs _ HRG.out arrU rfl (by rw [HVL.out]; exact arrS) ?_)
      have HRK0 := hid (show ∀ k, 0 ≤ k → k < 64 → (fun k => plcs ss k i) k = plcs ss k i from fun k _ _ => rfl)
      obtain ⟨P0, hP0⟩ : ∃ P0 : Nat → List Int, P0 = fun k => plcs ss k i := ⟨_, rfl⟩
      have HP0 := hid (show ∀ k, P0 k = plcs ss k i from fun k => by rw [hP0])
      rw [← hP0] at HG1
      clear hP0 HRK0 HRG
      go_wp2_with fail
      go_loopw [45] (fun u wx => ∃ (k : Nat) (P : Nat → List Int), u = .int .i64 (k : Int) ∧ k ≤ 64 ∧ Hid (Hl wx hb hb (.slice A i c) bs cp P) ∧ Hid (∀ j, j < k → Rk ss j (P j)) ∧ Hid (∀ j, k ≤ j → P j = P0 j) ∧ Hid (Kp No w wx)) (fun u _ => 64 - (vNum u).toNat)
      case atStart => exact ⟨0, P0, rfl, by omega, HG1, hid fun j hj => by omega, hid fun j _ => rfl, HK⟩
      case round =>
        clear HG1 HK
        obtain ⟨k, P, rfl, hk64, HG, HRk, HPk, HK⟩ := hrel
        have wk := wrapI (x := (k : Int) + 1) (by unfold I64; omega)
        by_cases hlk : k < 64
        · have glk : (k : Int) < 64 := by omega
          have HPE := hid (show P k = plcs ss k i from by rw [HPk.out k (Nat.le_refl _), HP0.out])
          have hrun := run_row64 HVL.out hlk (by rw [HPE.out]; exact HVA.out k hlk : vs[k]? = some (gsl (bs k) (P k).length (cp k))) wr
          have HSO := hid (sort_row (R := ordR ss) (V := plc i) (cf := ordC ss) (g := 41) (bd := #[.pointer (some ⟨hb, 0, none⟩)]) (cb := #[]) (w := wr) (ord_tot ss i) (HG.out.rows k hlk)
            (fun q hq => ⟨fun args w => by first | rfl | kernel_rfl, fun W kW x y hx hy => by
              obtain ⟨i1, h1, rfl⟩ := hx
              obtain ⟨j1, h2, rfl⟩ := hy
              have hcell : W.cell? ⟨hb, 0, none⟩ = some (.slice A i c) := (kW.cell (p := ⟨hb, 0, none⟩) HG.out.lt (fun e => HG.out.ne k hlk (by rw [hq]; exact congrArg some e.symm))).trans HG.out.head
              have hrw : Rw 3 sc st0 W (fun j => j < w.heap.size) (.slice A i c) ss := (HS.out.kp0 HK.out).kp kW (fun j _ hj e => by
                have e : j = q := e
                have := HG.out.los k hlk q hq
                have := HHB.out
                omega)
              refine (order_any hcell hrw HN.out (by omega) h1 h2).mono ?_
              rintro e w' ⟨rfl, k'⟩
              exact ⟨rfl, k'⟩⟩) (fun x hx => by
              rw [HPE.out] at hx
              obtain ⟨q, h1, h2, _⟩ := mem_plcs.1 hx
              exact ⟨q, by omega, h2⟩) (by rw [HPE.out]; exact (plcs_rise ss k i).imp fun h => by omega) (by rw [HPE.out]; have := plcs_len ss k i; omega))
          have HLO := hid (fun j (h : bs k = some j) => HG.out.los k hlk j h)
          go_wp2_with (go_at_call 40; refine HSO.out.mono ?_; rintro e w5 ⟨rfl, ks', hr5, hp5, hm5, kk5⟩; have HR5 := hid hr5; have HP5 := hid hp5; have HM5 := hid hm5; have KK5 := hid kk5; clear hr5 hp5 hm5 kk5)
          go_roundw
          case rel =>
            refine ⟨k + 1, upd P k ks', by go_num, by omega, hid (HG.out.sorted hlk HR5.out.1.symm KK5.out HR5.out), hid fun j hj => ?_, hid fun j hj => ?_, hid (HK.out.step KK5.out fun j hj e => ?_)⟩
            · by_cases e : j = k
              · subst e
                rw [upd_at]
                refine ⟨fun x => ?_, HP5.out⟩
                rw [HM5.out, HPE.out, mem_plcs, HN.out]
              · rw [upd_ne _ _ e]
                exact HRk.out j (by omega)
            · rw [upd_ne _ _ (by omega)]
              exact HPk.out j (by omega)
            · have := HLO.out j e
              have := HHB.out
              omega
          case measure => simp [vNum] <;> omega
        · obtain rfl : k = 64 := by omega
          have glk : ¬ ((64 : Nat) : Int) < 64 := by omega
          go_wp2_with fail
          go_ret
          exact ⟨hb, rfl, bs, cp, P, by rw [HHB.out]; exact HG.out, fun j hj => HRk.out j hj, HK.out⟩
end Go.Proofs.Ytoeeighfjoplhaa

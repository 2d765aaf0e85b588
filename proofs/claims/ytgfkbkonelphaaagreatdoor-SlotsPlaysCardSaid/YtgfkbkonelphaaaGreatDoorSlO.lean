/-
  Contract of the program's lay: an image is laid into its slot, and flushed.
-/
import Derived.Test.YtgfkbkonelphaaaGreatDoorSlLL
namespace Go.Proofs.YtgfkbkonelphaaaGreatDoor
open Go.RowKit Go.Shelf

attribute [local go_sem] Oper.semAt_some

section
variable {P : Program}
/-- A region that draws, whose head reads or calls quietly: the head in the order of the text, then the rest. -/
theorem any_tail {Q : Exit → Act → World → Prop} {a : Act} {w : World} {l : List Oper} (n : Nat) (hB : Region.lexTailB .any l.toArray n = true)
    (h : wpStill P l.toArray w (fun a' => wpList P l.toArray Q (l.drop n) a' w) (l.take n) a) : wpAny P .any l.toArray Q l.toArray.size (Array.replicate l.toArray.size false) a w := by
  simp only [Region.lexTailB, Bool.and_eq_true, decide_eq_true_eq] at hB
  obtain ⟨⟨⟨⟨hsel, hn⟩, hs⟩, hc⟩, hlex⟩ := hB
  have hn' : n < l.length := by simpa using hn
  have htl : (l.take n).length = n := by simp; omega
  have hdl : (l.drop n).length = l.toArray.size - n := by simp
  have inv0 : HeadInv .any l.toArray n (Array.replicate l.toArray.size false) :=
    ⟨by simp, fun j oj _ hl => (by rw [getD_replicate_false] at hl; cases hl), fun t _ ht => getD_in (by simpa using ht) (getD_replicate_false _ _)⟩
  have H := wpAnyL_lex (md := .any) (g := l.toArray.size - n) hsel hs hc hn (l.take n) 0 _ a (fun j hj => by
    have hj' : j < n := by rw [htl] at hj; exact hj
    simp [hj']) (by simpa using htl) inv0 (by rw [htl]; exact hlex) h
  have := wpAny_of_head (Q' := Q) (g := l.toArray.size - n) (fun listed a' hL => by
    have := wpAny_of_seq (md := .any) (Q' := Q) (l.drop n) n listed a' w (fun j => by simp [List.getElem?_drop]) (by rw [hdl]; exact hL.1) hL.2
    rwa [hdl] at this) _ _ _ H
  rw [htl, show n + (l.toArray.size - n) = l.toArray.size by omega] at this
  exact this
/-- .. in a round of a loop over an iterator. -/
theorem region_in_tail {Q : Exit → Act → World → Prop} {a : Act} {w : World} {l : List Oper} {l0 m id : Nat} (n : Nat) (hm : P.follows .mixedOrders = true) (hd : noDefer l.toArray = true) (hL : ¬ LetsOut Q) (hB : Region.lexTailB .any l.toArray n = true)
    (h : wpStill P l.toArray w.drew (fun a' => wpList P l.toArray Q (l.drop n) a' w.drew) (l.take n) a) : (Code.region id l.toArray true).wpIn (Fence.wide.inRound l0) m P Q a w :=
  region_in hm hd hL (any_tail n hB h)
end

theorem wrs_snoc : ∀ (l : List (List Int)) (s : Ds) (i : Nat) (x : List Int), wrs s i (l ++ [x]) = if (wrs s i l).2 then wr1 (wrs s i l).1 (i + l.length) x else wrs s i l
  | [], s, i, x => by
    show (if off s then (calld s, false) else wrs (wrote s (i : Int) x) (i + 1) []) = wr1 s (i + 0) x
    unfold wr1
    split <;> rfl
  | y :: r, s, i, x => by
    show (if off s then (calld s, false) else wrs (wrote s (i : Int) y) (i + 1) (r ++ [x])) = if (wrs s i (y :: r)).2 then wr1 (wrs s i (y :: r)).1 (i + (r.length + 1)) x else wrs s i (y :: r)
    have e : wrs s i (y :: r) = if off s then (calld s, false) else wrs (wrote s (i : Int) y) (i + 1) r := rfl
    rw [e, wrs_snoc r]
    cases off s with
    | true => rfl
    | false =>
      simp only [Bool.false_eq_true, if_false]
      rw [show i + 1 + r.length = i + (r.length + 1) by omega]
theorem wrs_stop : ∀ (l r : List (List Int)) (s : Ds) (i : Nat), (wrs s i l).2 = false → wrs s i (l ++ r) = wrs s i l
  | [], _, _, _, h => by cases h
  | y :: l, r, s, i, h => by
    have e : ∀ z, wrs s i (y :: z) = if off s then (calld s, false) else wrs (wrote s (i : Int) y) (i + 1) z := fun z => rfl
    rw [List.cons_append, e, e]
    rw [e] at h
    cases ho : off s with
    | true => rfl
    | false =>
      rw [ho] at h
      simp only [Bool.false_eq_true, if_false] at h ⊢
      exact wrs_stop l r _ _ h
theorem wr1_stop {s : Ds} {i : Nat} {x : List Int} (h : (wr1 s i x).2 = false) : wr1 s i x = (calld s, false) := by
  unfold wr1 at h ⊢
  split
  · rfl
  · rename_i ho
    rw [if_neg ho] at h
    cases h

section
variable {w w' : World} {P S : Nat → Prop} {q g b m h a N : Nat} {s : Ds} {has qb : Bool} {img I xs : List Int} {v iv : Value}
theorem Byt.chunk {A : Option Addr} {c n k : Nat} (hb : Byt w P (.slice A n c) I) (hl : I.length = n) (hk : 64 * k < n) : Byt w P (chv A n k) ((I.drop (64 * k)).take 64) := by
  subst hl
  have h1 := (hb.drop (64 * k) (Nat.le_of_lt hk)).take (min 64 (I.length - 64 * k)) (by rw [List.length_drop]; exact Nat.min_le_right _ _)
  have e : (I.drop (64 * k)).take (min 64 (I.length - 64 * k)) = (I.drop (64 * k)).take 64 := by
    rcases Nat.le_total 64 (I.length - 64 * k) with h | h
    · rw [Nat.min_eq_left h]
    · rw [Nat.min_eq_right h, List.take_of_length_le (by rw [List.length_drop]; omega), List.take_of_length_le (by rw [List.length_drop]; omega)]
  rw [e] at h1
  obtain ⟨A', c', he, hc, hm, hx, hr⟩ := h1
  injection he with e1 e2 e3
  subst e1
  have hlen : ((I.drop (64 * k)).take 64).length = min 64 (I.length - 64 * k) := by rw [List.length_take, List.length_drop]
  exact ⟨_, min 64 (I.length - 64 * k), by unfold chv; rw [hlen], by rw [hlen]; exact Nat.le_refl _, Nat.le_trans (Nat.min_le_left _ _) (show 64 ≤ maxLen by simp [maxLen]), hx, hr⟩

/-- Between two rounds, and behind the last one: its own boxes, the disk. -/
structure LI (w : World) (q g b m bs re bi Bnd : Nat) (ev iv : Int) (d : Ds) (O : Nat → Prop) (W : World) : Prop where
  kp : Kp (DB g b m) w W
  sb : Blk W bs 29 #[.pointer (some ⟨q, 0, none⟩)]
  rb : Blk W re 30 #[.int .i64 ev]
  ib : Blk W bi 3 #[.int .i64 iv]
  dk : Dk W g b m d
  own : ∀ k, O k → Bnd ≤ k
  big : Bnd ≤ W.heap.size
theorem LI.step {bs re bi Bnd : Nat} {ev x : Int} {d : Ds} {O T : Nat → Prop} {W W' : World} (h : LI w q g b m bs re bi Bnd ev x d O W) (hk : Kp T W W') (hT : ∀ k, T k → Bnd ≤ k) (hw : w.heap.size ≤ Bnd) (h1 : bs < Bnd) (h2 : re < Bnd) (h3 : bi < Bnd) (h4 : g < Bnd) (h5 : b < Bnd) (h6 : m < Bnd) : LI w q g b m bs re bi Bnd ev x d O W' := by
  have hn : ∀ k, k < Bnd → ¬ T k := fun k hk e => absurd (hT k e) (by omega)
  exact ⟨h.kp.step hk fun i hi e => absurd e (hn i (by omega)), h.sb.kp hk (hn _ h1), h.rb.kp hk (hn _ h2), h.ib.kp hk (hn _ h3), h.dk.kp hk (hn _ h4) (hn _ h5) (hn _ h6), h.own, by have := hk.size; have := h.big; omega⟩
theorem LI.ab {bs re bi Bnd : Nat} (hw : w.heap.size ≤ Bnd) (h1 : bs < Bnd) (h2 : re < Bnd) (h3 : bi < Bnd) (h4 : g < Bnd) (h5 : b < Bnd) (h6 : m < Bnd) {β : Type} (ev iv : β → Int) (d : β → Ds) (R : β → Prop) : AbO (fun O (pre : β) W => LI w q g b m bs re bi Bnd (ev pre) (iv pre) (d pre) O W ∧ R pre) := by
  rintro O O' pre W W' ⟨h, hr⟩ hk hO
  obtain ⟨k1, k2, k3, k4, k5, k6, k7⟩ := h.step hk h.own hw h1 h2 h3 h4 h5 h6
  refine ⟨⟨k1, k2, k3, k4, k5, fun k e => ?_, k7⟩, hr⟩
  rcases hO k e with e | e
  · exact h.own k e
  · exact Nat.le_trans h.big e.1

def LyPost (g b m : Nat) (w : World) (p : Ds × Bool) (e : Ending) (w' : World) : Prop := e = .returned (.int .i64 (cod p.2)) ∧ Kp (DB g b m) w w' ∧ Dk w' g b m p.1
set_option maxRecDepth 100000 in
set_option maxHeartbeats 2000000 in
theorem lay_any (h0 : Dk w g b m s) (hs : Str w q g b m h a has img) (hn : 2 + 2 * h ≤ s.k.length) (hv : Byt w (Stn q g b m) iv I) (hok : Hok h (N, qb, I)) :
    Calls Tryz.prog 36 #[.pointer (some ⟨q, 0, none⟩), hag N qb iv] w (LyPost g b m w (andThen (wrs s (2 + N % 2 * h) (parts I)) fls)) := by
  have HD := hid h0
  have HS := hid hs
  have HV := hid hv
  have hh := hs.hh
  have hI : I.length ≤ 64 * h := hok.2.1
  have hN40 : N ≤ 1099511627776 := hok.1
  have hlt := h0.lts
  have hql := hs.lt
  have hqg := hs.qg
  have hqb := hs.qb
  have hqm := hs.qm
  have hnp : N % 2 < 2 := Nat.mod_lt _ (by decide)
  have hbg0 : N % 2 * h ≤ h := by rcases (show N % 2 = 0 ∨ N % 2 = 1 by omega) with e | e <;> rw [e] <;> omega
  obtain ⟨kk, hkk⟩ : ∃ kk, N % 2 = kk := ⟨_, rfl⟩
  have HKk := hid hkk
  rw [hkk] at hnp hbg0 ⊢
  obtain ⟨bg, hbg⟩ : ∃ bg, 2 + kk * h = bg := ⟨_, rfl⟩
  have HBg := hid hbg
  have hbn : bg + h ≤ s.k.length := by omega
  obtain ⟨A, c, rfl, hcap, hcm, _, hA⟩ := hv
  have HA := hid (show 0 < I.length → ∃ b o, A = some ⟨b, o, none⟩ from fun h => by obtain ⟨b, o, e, _⟩ := hA h; exact ⟨b, o, e⟩)
  rw [hbg]
  unfold hag
  clear h0 hs hok hbg hA hkk
  refine (callsIn_wide (n := 5)).1 ?_
  refine callsIn_of_wp_marks Tryz.func36 rfl trivial ?_ rfl
  simp only [Tryz.ntmps36, List.size_toArray, List.length_cons, List.length_nil, Nat.reduceAdd, Nat.reduceSub, Array.replicate_succ, Array.replicate_zero, List.push_toArray, List.append_toArray, List.nil_append, List.cons_append]
  refine wpIn_wide.2 ?_
  go_upto_region 1 with fail
  have s0 : Blk _ w.heap.size 29 #[.pointer (some ⟨q, 0, none⟩)] := ((Blk.new w 29 #[.pointer (some ⟨q, 0, none⟩)]).kp0 ((Kp.refl No _).alloc (.cells #[.int .i64 (N : Int), .bool qb, .slice A I.length c] 64))).kp0 ((Kp.refl No _).alloc (.cells #[.int .i64 0] 30))
  have x0 : Blk _ (w.heap.size + 1) 64 #[.int .i64 (N : Int), .bool qb, .slice A I.length c] := ((Blk.new (w.alloc (.cells #[.pointer (some ⟨q, 0, none⟩)] 29)) 64 #[.int .i64 (N : Int), .bool qb, .slice A I.length c]).next (by simp)).kp0 ((Kp.refl No _).alloc (.cells #[.int .i64 0] 30))
  have r0 : Blk _ (w.heap.size + 1 + 1) 30 #[.int .i64 0] := (Blk.new ((w.alloc (.cells #[.pointer (some ⟨q, 0, none⟩)] 29)).alloc (.cells #[.int .i64 (N : Int), .bool qb, .slice A I.length c] 64)) 30 #[.int .i64 0]).next (by simp)
  have k0 : Kp No w _ := (((Kp.refl No w).alloc (.cells #[.pointer (some ⟨q, 0, none⟩)] 29)).alloc (.cells #[.int .i64 (N : Int), .bool qb, .slice A I.length c] 64)).alloc (.cells #[.int .i64 0] 30)
  have hz : _ = w.heap.size + 3 := show (((w.alloc (.cells #[.pointer (some ⟨q, 0, none⟩)] 29)).alloc (.cells #[.int .i64 (N : Int), .bool qb, .slice A I.length c] 64)).alloc (.cells #[.int .i64 0] 30)).heap.size = w.heap.size + 3 by simp
  generalize (((w.alloc (.cells #[.pointer (some ⟨q, 0, none⟩)] 29)).alloc (.cells #[.int .i64 (N : Int), .bool qb, .slice A I.length c] 64)).alloc (.cells #[.int .i64 0] 30)) = W0 at s0 x0 r0 k0 hz ⊢
  have HF := hid (show ∀ w', Kp No W0 w' → w'.cell? ⟨w.heap.size, 0, none⟩ = some (.pointer (some ⟨q, 0, none⟩)) ∧ w'.cell? ⟨w.heap.size + 1, 0, none⟩ = some (.int .i64 (N : Int)) ∧ w'.cell? ⟨w.heap.size + 1, 1, none⟩ = some (.bool qb) ∧ w'.cell? ⟨w.heap.size + 1, 2, none⟩ = some (.slice A I.length c) from fun w' k =>
    ⟨(s0.kp0 k).cell 0, (x0.kp0 k).cell 0, (x0.kp0 k).cell 1, (x0.kp0 k).cell 2⟩)
  have S0 := hid s0
  have X0 := hid x0
  have R0 := hid r0
  have K0 := hid k0
  have HZ := hid hz
  clear s0 x0 r0 k0 hz
  obtain ⟨d0, d1, d2, d3⟩ := HF.out _ (Kp.refl No W0)
  obtain ⟨e0, e1, e2, e3⟩ := HF.out _ ((Kp.refl No W0).alloc (.cells #[.int .i64 0] 3))
  obtain ⟨e0', e1', e2', e3'⟩ := HF.out _ ((Kp.refl No W0).drew.alloc (.cells #[.int .i64 0] 3))
  go_cut [5] from 8 to 12 (fun x wx => ∃ bi, x = .pointer (some ⟨bi, 0, none⟩) ∧ Hid (W0.heap.size ≤ bi ∧ Kp No W0 wx ∧ Blk wx bi 3 #[.int .i64 (bg : Int)]))
  case first =>
    go_region_with (first
      | (go_at_call 49
         refine (hnum_any N qb (.slice A I.length c) _ (by omega)).mono ?_
         rintro e w3 ⟨rfl, k3⟩
         rw [HKk.out]
         have BN := hid (show Blk w3 W0.heap.size 3 #[.int .i64 0] by first | exact (Blk.new W0.drew 3 #[.int .i64 0]).kp0 k3 | exact ((Blk.new W0 3 #[.int .i64 0]).kp0 (Kp.refl No _).drew).kp0 k3)
         have KN := hid (show Kp No W0 w3 by first | exact ((Kp.refl No W0).drew.alloc _).trans k3 | exact ((Kp.refl No W0).alloc _).drew.trans k3)
         have b0 : w3.cell? ⟨W0.heap.size, 0, none⟩ = some (.int .i64 0) := BN.out.cell 0
         have b1 := BN.out.frozen 0
         obtain ⟨y0, y1, y2, y3⟩ := HF.out _ KN.out
         obtain ⟨z0, z1, z2, z3⟩ := HF.out _ (KN.out.alloc (.cells #[.int .i64 0] 3))
         clear k3)
      | (go_at_call 49
         refine (hnum_any N qb (.slice A I.length c) _ (by omega)).mono ?_
         rintro e w3 ⟨rfl, k3⟩
         rw [HKk.out]
         have KN := hid (show Kp No W0 w3 from (Kp.refl No W0).drew.trans k3)
         obtain ⟨y0, y1, y2, y3⟩ := HF.out _ KN.out
         obtain ⟨z0, z1, z2, z3⟩ := HF.out _ (KN.out.alloc (.cells #[.int .i64 0] 3))
         clear k3)
      | (go_at_call 55
         refine (begin_any (HS.out.kp0 (K0.out.trans (by first | exact KN.out | exact KN.out.alloc _))) hnp).mono ?_
         rintro e w4 ⟨rfl, rfl⟩
         rw [HBg.out]))
    all_goals
      go_wp2_with fail
      go_meet
      first
        | exact ⟨_, rfl, hid ⟨KN.out.size, KN.out.alloc _, Blk.new _ _ _⟩⟩
        | exact ⟨_, rfl, hid ⟨Nat.le_refl _, KN.out.setCell (p := ⟨W0.heap.size, 0, none⟩) (.inr (Nat.le_refl _)) _, BN.out.put 0 _⟩⟩
  case rest =>
    obtain ⟨bi, rfl, HC⟩ := hcut
    have hbiW : W0.heap.size ≤ bi := HC.out.1
    have KC := hid HC.out.2.1
    have BC := hid HC.out.2.2
    have hbi : bi < wc.heap.size := BC.out.lt
    have hW0 : W0.heap.size = w.heap.size + 3 := HZ.out
    have SC := hid (S0.out.kp0 KC.out)
    have RC := hid (R0.out.kp0 KC.out)
    have KK := hid (K0.out.trans KC.out)
    have HF2 := hid (show ∀ w', Kp No wc w' → w'.cell? ⟨w.heap.size + 1, 2, none⟩ = some (.slice A I.length c) from fun w' k => (HF.out _ (KC.out.trans k)).2.2.2)
    have c2 := HF2.out _ (Kp.refl No wc)
    clear d0 d1 d2 d3 e0 e1 e2 e3 e0' e1' e2' e3' HC HF
    go_wp2_with (first
      | (go_at_call 56
         refine (chunk_any (.slice A I.length c) rfl _).mono ?_
         rintro e w5 ⟨rfl, rfl⟩))
    have y0 : Blk _ wc.heap.size 36 #[.slice A I.length c] := (Blk.new wc 36 #[.slice A I.length c]).kp0 ((Kp.refl No _).alloc (.cells #[.int .i64 64] 3))
    have y1 : Blk _ (wc.heap.size + 1) 3 #[.int .i64 64] := (Blk.new (wc.alloc (.cells #[.slice A I.length c] 36)) 3 #[.int .i64 64]).next (by simp)
    have k5 : Kp No wc _ := ((Kp.refl No wc).alloc (.cells #[.slice A I.length c] 36)).alloc (.cells #[.int .i64 64] 3)
    have z5 := show ((wc.alloc (.cells #[.slice A I.length c] 36)).alloc (.cells #[.int .i64 64] 3)).heap.size = wc.heap.size + 2 by simp
    generalize (wc.alloc (.cells #[.slice A I.length c] 36)).alloc (.cells #[.int .i64 64] 3) = W1 at y0 y1 k5 z5 ⊢
    have SQ := hid (chunk_seq wc.heap.size I.length c A W1 (by omega) (by rw [y0.cell]; rfl) (by rw [y1.cell]; rfl) HA.out hcap (by omega))
    have i0 := hid (show LI w q g b m w.heap.size (w.heap.size + 1 + 1) bi W1.heap.size 0 (bg : Int) s No W1 from
      ⟨(KK.out.trans k5).all, SC.out.kp0 k5, RC.out.kp0 k5, BC.out.kp0 k5, HD.out.kp0 (KK.out.trans k5), fun k hk => hk.elim, Nat.le_refl _⟩)
    have hKK := KK.out.size
    have hKC := KC.out.size
    have hM : (cks A I.length ((I.length + 63) / 64)).length = (parts I).length := by rw [parts_len]; simp [cks]
    have hpl := parts_len I
    have PH := hid (show ∀ k, 64 * k < I.length → (parts I)[k]? = some ((I.drop (64 * k)).take 64) from fun k hk => parts_at hk)
    obtain ⟨ps, hps⟩ : ∃ ps, parts I = ps := ⟨_, rfl⟩
    have HPS := hid hps
    rw [hps] at hM hpl PH
    clear y0 y1 k5 c2 hps
    refine (wpIn_wide (n := 5)).1 ?_
    refine range_own (gf := 71) (lb := #[.pointer (some ⟨wc.heap.size, 0, none⟩), .pointer (some ⟨wc.heap.size + 1, 0, none⟩)]) rfl (enters_of Tryz.func71 (by kernel_rfl) rfl)
      SQ.out (fun k hk => by rcases hk with e | e <;> omega) (fun _ => rfl)
      (fun O pre W => LI w q g b m w.heap.size (w.heap.size + 1 + 1) bi W1.heap.size 0 ((bg + pre.length : Nat) : Int) (wrs s bg (ps.take pre.length)).1 O W ∧ (wrs s bg (ps.take pre.length)).2 = true)
      (fun c O pre W => LI w q g b m w.heap.size (w.heap.size + 1 + 1) bi W1.heap.size 19 ((bg + (pre.length - 1) : Nat) : Int) (wrs s bg ps).1 O W ∧ (c = .ret ∧ (wrs s bg ps).2 = false))
      (LI.ab (by omega) (by omega) (by omega) (by omega) (by omega) (by omega) (by omega) _ _ _ _) (fun c => LI.ab (by omega) (by omega) (by omega) (by omega) (by omega) (by omega) (by omega) _ _ _ _) ⟨i0.out, rfl⟩ ?round ?done ?stop
    case done =>
      rintro D O W hD hO ⟨hN, hok⟩ hK
      rw [hM, List.take_length] at hN hok
      obtain ⟨⟨pd, pb⟩, hp⟩ : ∃ p, wrs s bg ps = p := ⟨_, rfl⟩
      rw [hp] at hN hok
      simp only at hN hok
      subst hok
      have HAT := hid (show andThen (wrs s bg ps) fls = fls pd by rw [hp]; rfl)
      have c0 := hN.sb.cell 0
      simp at c0
      obtain ⟨_, _, _, _, _, c3, _, _⟩ := (HS.out.kpd hN.kp fun _ h => h).cells
      obtain ⟨⟨fd, fb⟩, hf⟩ : ∃ p, fls pd = p := ⟨_, rfl⟩
      have HFd := hid hf
      have hWW := hN.kp.size
      have HN := hid hN
      clear hp hf hN
      go_wp2_with (first
        | (go_at_call 58
           refine (flush_st HN.out.dk).mono ?_
           rintro e w6 ⟨rfl, k6, d6⟩
           rw [HFd.out] at d6 ⊢
           have hK6 : w6.heap[D]? = some (.deferred (some [])) := (k6.block D (Array.getElem?_eq_some_iff.1 hK).1 fun e => by rcases e with e | e | e <;> omega).trans hK
           have R6 := hid (HN.out.rb.kp k6 fun e => by rcases e with e | e | e <;> omega)
           have r0 := R6.out.cell 0
           have r1 := R6.out.frozen 0
           simp at r0
           have K6 := hid (HN.out.kp.trans k6)
           have D6 := hid d6
           clear k6 d6 c3))
      have hDr : w.heap.size + 1 + 1 ≠ D := by omega
      have hK7 : (w6.setCell ⟨w.heap.size + 1 + 1, 0, none⟩ (.int .i64 (cod fb))).heap[D]? = some (.deferred (some [])) := (Below.heap_setCell w6 ⟨w.heap.size + 1 + 1, 0, none⟩ _ D (by simp only; omega)).trans hK6
      have R7 := R6.out.put 0 (.int .i64 (cod fb))
      have L7 := (Kp.refl (Only (w.heap.size + 1 + 1)) w6).setCell (p := ⟨w.heap.size + 1 + 1, 0, none⟩) (.inl rfl) (.int .i64 (cod fb))
      have D7 := D6.out.kp L7 (fun e => by unfold Only at e; omega) (fun e => by unfold Only at e; omega) (fun e => by unfold Only at e; omega)
      have K7 := K6.out.step L7 fun i hi e => by unfold Only at e; omega
      generalize w6.setCell ⟨w.heap.size + 1 + 1, 0, none⟩ (.int .i64 (cod fb)) = WF at hK7 R7 L7 D7 K7 ⊢
      have kp := Kp.put1 D WF (.deferred none)
      have q1 := (R7.kp kp (fun e => by unfold Only at e; omega)).cell 0
      simp at q1
      refine ⟨by simp, .inl ⟨_, _, rfl, run_takeDeferred hK7, ?_⟩⟩
      refine ⟨.int .i64 (cod fb), by simp [results, Tryz.results36, go_sem, q1], ?_⟩
      unfold LyPost
      rw [HPS.out, HAT.out, HFd.out]
      exact ⟨rfl, K7.step kp (fun i hi e => by unfold Only at e; omega), D7.kp kp (fun e => by unfold Only at e; omega) (fun e => by unfold Only at e; omega) (fun e => by unfold Only at e; omega)⟩
    case stop =>
      rintro D O c pre rest W hD hO hx ⟨hN, rfl, hf⟩ hK
      have HAT := hid (show andThen (wrs s bg ps) fls = wrs s bg ps by unfold andThen; rw [hf]; rfl)
      have HF := hid hf
      have hWW := hN.kp.size
      have HN := hid hN
      clear hf hN hx
      gi_wp2
      have kp := Kp.put1 D W (.deferred none)
      have q1 := (HN.out.rb.kp kp (fun e => by unfold Only at e; omega)).cell 0
      simp at q1
      refine ⟨by simp, .inl ⟨_, _, rfl, run_takeDeferred hK, ?_⟩⟩
      refine ⟨.int .i64 19, by simp [results, Tryz.results36, go_sem, q1], ?_⟩
      unfold LyPost
      rw [HPS.out, HAT.out, HF.out]
      exact ⟨rfl, HN.out.kp.step kp (fun i hi e => by unfold Only at e; omega), HN.out.dk.kp kp (fun e => by unfold Only at e; omega) (fun e => by unfold Only at e; omega) (fun e => by unfold Only at e; omega)⟩
    case round =>
      rintro l' O pre x rest W hx hOl hl1 hl2 ⟨hN, hok⟩
      obtain ⟨hlt2, rfl⟩ := cks_at hx
      have hl3 := hN.own l' hOl
      have hkI : 64 * pre.length < I.length := by omega
      have hpk := PH.out _ hkI
      have hkps : pre.length < ps.length := (List.getElem?_eq_some_iff.1 hpk).1
      have htk : ps.take (pre.length + 1) = ps.take pre.length ++ [(I.drop (64 * pre.length)).take 64] := by
        rw [List.take_add_one, hpk]
        rfl
      have hlt3 : (ps.take pre.length).length = pre.length := by rw [List.length_take]; omega
      have hsn := wrs_snoc (ps.take pre.length) s bg ((I.drop (64 * pre.length)).take 64)
      rw [hok, if_pos rfl, hlt3, ← htk] at hsn
      have hpk64 : ((I.drop (64 * pre.length)).take 64).length ≤ 64 := by rw [List.length_take]; omega
      have hvk := hid (fun (W' : World) (hk : Kp (DB g b m) w W') => ((HV.out.kp hk fun i hi e => by rcases e with e | e | e; exact hi.2.1 e; exact hi.2.2.1 e; exact hi.2.2.2 e).chunk rfl hkI))
      generalize (I.drop (64 * pre.length)).take 64 = px at hsn hpk64 hvk htk
      have hwk : ∀ l : List (List Int), ∀ s i, (wrs s i l).1.k = s.k := fun l s i => (wrs_is l s i).choose_spec.2.2.1
      have hdl : (wrs s bg (ps.take pre.length)).1.k.length = s.k.length := by rw [hwk]
      have HST := hid (show (wrs s bg (ps.take (pre.length + 1))).2 = false → wrs s bg ps = wrs s bg (ps.take (pre.length + 1)) from fun h => by
        have := wrs_stop (ps.take (pre.length + 1)) (ps.drop (pre.length + 1)) s bg h
        rw [List.take_append_drop] at this
        exact this)
      generalize (wrs s bg (ps.take pre.length)).1 = dk at hN hsn hdl
      obtain ⟨⟨nd, nb⟩, hnw⟩ : ∃ p, wr1 dk (bg + pre.length) px = p := ⟨_, rfl⟩
      have HNW := hid hnw
      have HSN := hid (hsn.trans hnw)
      clear hsn hnw htk hpk hok
      dsimp only
      gi_wp2
      refine ⟨Kp.refl _ _, fun W2 hk2 => ?_⟩
      have N2 := hN.step hk2 (fun k hk => by have : k = l' := hk; omega) (by omega) (by omega) (by omega) (by omega) (by omega) (by omega) (by omega)
      obtain ⟨_, _, _, _, _, c3, _, _⟩ := (HS.out.kpd N2.kp fun _ h => h).cells
      have c0 := N2.sb.cell 0
      have c1 := N2.ib.cell 0
      simp only [List.getElem?_toArray, List.getElem?_cons_zero] at c0 c1
      obtain ⟨bk, hbk⟩ : ∃ bk, bg + pre.length = bk := ⟨_, rfl⟩
      rw [hbk] at c1
      have hWW := N2.kp.size
      have HN2 := hid N2
      have HBk := hid hbk
      have hbn2 : bk < s.k.length := by omega
      have CV := hid (hvk.out _ N2.kp)
      generalize hcv : chv A I.length pre.length = cv at CV ⊢
      clear hN N2 hk2 hbk hcv
      gi_wp2
      refine region_in_tail 6 (by kernel_rfl) (by kernel_rfl) (fun ⟨_, _, h⟩ => h.elim) (by kernel_rfl) ?_
      simp only [List.take_succ_cons, List.take_zero, List.drop_succ_cons, List.drop_zero]
      repeat still_step
      refine wpStill_nil ?_
      have N3 := hid (HN2.out.step (Kp.refl No _).drew (fun k hk => hk.elim) (by omega) (by omega) (by omega) (by omega) (by omega) (by omega) (by omega))
      have CV3 := hid (CV.out.kp0 (Kp.refl No _).drew)
      have HNW2 := hid (show wr1 dk bk px = (nd, nb) by rw [← HBk.out]; exact HNW.out)
      have K3 := hid ((Kp.refl (Out O fun k => k = wc.heap.size ∨ k = wc.heap.size + 1) W2).drew)
      have K3n := hid ((Kp.refl (Nox O) W2).drew)
      have hO3 := hid (HN2.out.own)
      have hdo : ∀ i, DB g b m i → ¬ O i := fun i e ho => by have := hO3.out i ho; rcases e with e | e | e <;> omega
      have hdr : ∀ i, DB g b m i → ¬ (i = wc.heap.size ∨ i = wc.heap.size + 1) := fun i e => by rcases e with e | e | e <;> omega
      have hw1 := wrapI (x := (bk : Int) + 1) (by have := HD.out.ok.len; unfold I64; omega)
      clear c0 c1 c3 HN2 CV
      obtain ⟨W3, hW3⟩ : ∃ W3, W2.drew = W3 := ⟨_, rfl⟩
      rw [hW3] at N3 CV3 K3 K3n ⊢
      have hW3s : W.heap.size ≤ W3.heap.size ∨ True := .inr trivial
      clear hW3
      cases nb with
      | true =>
        go_wp2_with (first
          | (go_at_call 57
             refine (write_st N3.out.dk (i := bk) (by omega) CV3.out (fun h => h.2.1 rfl) hpk64).mono ?_
             rintro e w6 ⟨rfl, k6, d6⟩
             rw [HNW2.out] at d6 ⊢
             rw [show cod true = 0 from rfl]
             have e0 : ((0 : Int) != 0) = false := rfl
             have I6 := hid (show Blk w6 bi 3 #[.int .i64 (bk : Int)] by rw [← HBk.out]; exact N3.out.ib.kp k6 fun e => by have := hdr _ e; rcases e with e | e | e <;> omega)
             have i0' := I6.out.cell 0
             have i1' := I6.out.frozen 0
             simp only [List.getElem?_toArray, List.getElem?_cons_zero] at i0'
             have K6 := hid k6
             have D6 := hid d6
             clear k6 d6))
        gi_wp2
        have I7 := I6.out.put 0 (.int .i64 ((bk : Int) + 1))
        have L7 := (Kp.refl (Only bi) w6).setCell (p := ⟨bi, 0, none⟩) (.inl rfl) (.int .i64 ((bk : Int) + 1))
        have hni : ∀ i, Only bi i → i = bi := fun i e => e
        have hbO : ¬ O bi := fun e => by have := hO3.out _ e; omega
        have k7 : Kp (Out O fun k => k = wc.heap.size ∨ k = wc.heap.size + 1) W2 (w6.setCell ⟨bi, 0, none⟩ (.int .i64 ((bk : Int) + 1))) := by
          refine (K3.out.trans (K6.out.mono fun i _ e => ⟨hdo i e, hdr i e⟩)).trans (L7.mono fun i _ e => ?_)
          cases e
          exact ⟨hbO, fun e => by rcases e with e | e <;> omega⟩
        refine ⟨k7, ⟨?_, ?_, ?_, ?_, ?_, hO3.out, ?_⟩, ?_⟩
        · exact (N3.out.kp.trans K6.out).step L7 fun i hi e => by cases e; omega
        · exact (N3.out.sb.kp K6.out (fun e => by rcases e with e | e | e <;> omega)).kp L7 fun e => by cases e; omega
        · exact (N3.out.rb.kp K6.out (fun e => by rcases e with e | e | e <;> omega)).kp L7 fun e => by cases e; omega
        · rw [List.length_append, List.length_singleton, show ((bg + (pre.length + 1) : Nat) : Int) = (bk : Int) + 1 by have := HBk.out; omega]
          exact I7
        · rw [List.length_append, List.length_singleton, HSN.out]
          exact D6.out.kp L7 (fun e => by cases e; omega) (fun e => by cases e; omega) (fun e => by cases e; omega)
        · have h1 := N3.out.big
          have h2 := K6.out.size
          have h3 := L7.size
          omega
        · rw [List.length_append, List.length_singleton, HSN.out]
      | false =>
        go_wp2_with (first
          | (go_at_call 57
             refine (write_st N3.out.dk (i := bk) (by omega) CV3.out (fun h => h.2.1 rfl) hpk64).mono ?_
             rintro e w6 ⟨rfl, k6, d6⟩
             rw [HNW2.out] at d6 ⊢
             rw [show cod false = 19 from rfl]
             have e0 : ((19 : Int) != 0) = true := rfl
             have I6 := hid (N3.out.rb.kp k6 fun e => by rcases e with e | e | e <;> omega)
             have i0' := I6.out.cell 0
             have i1' := I6.out.frozen 0
             simp only [List.getElem?_toArray, List.getElem?_cons_zero] at i0'
             have K6 := hid k6
             have D6 := hid d6
             clear k6 d6))
        gi_wp2
        have I7 := I6.out.put 0 (.int .i64 19)
        have L7 := (Kp.refl (Only (w.heap.size + 1 + 1)) w6).setCell (p := ⟨w.heap.size + 1 + 1, 0, none⟩) (.inl rfl) (.int .i64 19)
        have hrO : ¬ O (w.heap.size + 1 + 1) := fun e => by have := hO3.out _ e; omega
        have hE := HST.out (by rw [HSN.out])
        have k7 : Kp (Nox O) W2 (w6.setCell ⟨w.heap.size + 1 + 1, 0, none⟩ (.int .i64 19)) := by
          refine (K3n.out.trans (K6.out.mono fun i _ e => hdo i e)).trans (L7.mono fun i _ e => ?_)
          cases e
          exact hrO
        refine ⟨k7, ⟨?_, ?_, ?_, ?_, ?_, hO3.out, ?_⟩, rfl, ?_⟩
        · exact (N3.out.kp.trans K6.out).step L7 fun i hi e => by cases e; omega
        · exact (N3.out.sb.kp K6.out (fun e => by rcases e with e | e | e <;> omega)).kp L7 fun e => by unfold Only at e; omega
        · exact I7
        · rw [List.length_append, List.length_singleton, Nat.add_sub_cancel]
          exact (N3.out.ib.kp K6.out (fun e => by have := hdr _ e; rcases e with e | e | e <;> omega)).kp L7 fun e => by unfold Only at e; omega
        · rw [hE, HSN.out]
          exact D6.out.kp L7 (fun e => by unfold Only at e; omega) (fun e => by unfold Only at e; omega) (fun e => by unfold Only at e; omega)
        · have h1 := N3.out.big
          have h2 := K6.out.size
          have h3 := L7.size
          omega
        · rw [hE, HSN.out]
end
end Go.Proofs.YtgfkbkonelphaaaGreatDoor

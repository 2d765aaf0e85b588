/-
  Plain: loads of seats, one move, all moves, and what becomes less.
-/
import Derived.Test.YtoeeighfjoplhaaLoMv
import Derived.Test.YtoeeighfjoplhaaLoR
/-
  Plain: a seat on another core; what becomes of the rows of places. Seats in a block of the call's own.
-/
namespace Go.Proofs.Ytoeeighfjoplhaa
open Go.RowKit
/-- Seat p is on core t. -/
def mvS (ss : List St) (p : Nat) (t : Int) : List St := ss.set p ⟨(ss.getD p st0).id, t, (ss.getD p st0).cs⟩
section
variable {ss : List St} {p : Nat} {t : Int}
theorem mvS_len : (mvS ss p t).length = ss.length := by simp [mvS]
theorem mvS_at (hp : p < ss.length) : (mvS ss p t).getD p st0 = ⟨(ss.getD p st0).id, t, (ss.getD p st0).cs⟩ := by simp [mvS, List.getD, hp]
theorem mvS_ne {j : Nat} (h : j ≠ p) : (mvS ss p t).getD j st0 = ss.getD j st0 := by
  unfold mvS
  rw [List.getD_eq_getElem?_getD, List.getElem?_set_ne (fun e => h e.symm)]
  rfl
theorem mvS_id (hp : p < ss.length) (j : Nat) : ((mvS ss p t).getD j st0).id = (ss.getD j st0).id := by
  by_cases e : j = p
  · rw [e, mvS_at hp]
  · rw [mvS_ne e]
theorem mvS_cs (hp : p < ss.length) (j : Nat) : ((mvS ss p t).getD j st0).cs = (ss.getD j st0).cs := by
  by_cases e : j = p
  · rw [e, mvS_at hp]
  · rw [mvS_ne e]
theorem ordR_mv (hp : p < ss.length) : ordR (mvS ss p t) = ordR ss := by
  funext x y
  unfold ordR idAt
  rw [mvS_id hp, mvS_id hp]
theorem csAt_mv (hp : p < ss.length) (x : Int) : csAt (mvS ss p t) x = csAt ss x := by
  unfold csAt
  rw [mvS_cs hp]
end
section
variable {ss : List St} {k : Nat} {l : List Int} {p : Nat}
theorem mem_delP {i : Nat} (hi : i < l.length) (hd : l.Nodup) (x : Int) : x ∈ delP i l ↔ x ∈ l ∧ x ≠ rowf l i := by
  have e : l = l.take i ++ rowf l i :: l.drop (i + 1) := by
    have h1 : rowf l i = l[i] := by simp [rowf, List.getD, hi]
    rw [h1, ← List.drop_eq_getElem_cons hi, List.take_append_drop]
  have hd2 := hd
  rw [e] at hd2
  obtain ⟨d1, d2, d3⟩ := List.nodup_append.1 hd2
  have d4 := (List.nodup_cons.1 d2).1
  have hm : x ∈ l ↔ x ∈ l.take i ∨ x = rowf l i ∨ x ∈ l.drop (i + 1) := by
    constructor
    · intro h
      rw [e] at h
      rcases List.mem_append.1 h with h | h
      · exact .inl h
      · exact .inr (List.mem_cons.1 h)
    · rintro (h | h | h)
      · exact List.mem_of_mem_take h
      · rw [h]; exact mem_rowf.2 ⟨i, hi, rfl⟩
      · exact List.mem_of_mem_drop h
  unfold delP
  rw [List.mem_append, hm]
  constructor
  · rintro (h | h)
    · exact ⟨.inl h, fun q => by rw [q] at h; exact d3 _ h _ List.mem_cons_self rfl⟩
    · exact ⟨.inr (.inr h), fun q => by rw [q] at h; exact d4 h⟩
  · rintro ⟨h | h | h, hne⟩
    · exact .inl h
    · exact absurd h hne
    · exact .inr h
theorem pair_delP {R : Int → Int → Prop} {i : Nat} (h : l.Pairwise R) : (delP i l).Pairwise R := by
  unfold delP
  have h0 := h
  rw [← List.take_append_drop i l] at h0
  obtain ⟨h1, h2, h3⟩ := List.pairwise_append.1 h0
  refine List.pairwise_append.2 ⟨h1, h.drop, fun a ha b hb => h3 a ha b ?_⟩
  have e : l.drop (i + 1) = (l.drop i).drop 1 := by rw [List.drop_drop]
  rw [e] at hb
  exact List.mem_of_mem_drop hb
theorem mem_insP {i : Nat} {y x : Int} : x ∈ insP i y l ↔ x = y ∨ x ∈ l := by
  unfold insP
  rw [List.mem_append, List.mem_cons]
  have hm : x ∈ l ↔ x ∈ l.take i ∨ x ∈ l.drop i := by
    rw [← List.mem_append, List.take_append_drop]
  rw [hm]
  constructor
  · rintro (h | h | h)
    · exact .inr (.inl h)
    · exact .inl h
    · exact .inr (.inr h)
  · rintro (h | h | h)
    · exact .inr (.inl h)
    · exact .inl h
    · exact .inr (.inr h)
theorem pair_insP {R : Int → Int → Prop} {i : Nat} {y : Int} (h : l.Pairwise R) (h1 : ∀ t, t < i → t < l.length → R (rowf l t) y) (h2 : ∀ t, i ≤ t → t < l.length → R y (rowf l t)) (htr : ∀ {a b c : Int}, R a b → R b c → R a c) : (insP i y l).Pairwise R := by
  have ha : ∀ a ∈ l.take i, R a y := fun a ha => by
    obtain ⟨t, ht, e⟩ := List.mem_iff_getElem.1 ha
    rw [List.length_take] at ht
    have := h1 t (by omega) (by omega)
    have e2 : rowf l t = a := by rw [← e, List.getElem_take]; simp [rowf, List.getD, show t < l.length by omega]
    rwa [e2] at this
  have hb : ∀ b ∈ l.drop i, R y b := fun b hb => by
    obtain ⟨t, ht, e⟩ := List.mem_iff_getElem.1 hb
    rw [List.length_drop] at ht
    have := h2 (i + t) (by omega) (by omega)
    have e2 : rowf l (i + t) = b := by rw [← e, List.getElem_drop]; simp [rowf, List.getD, show i + t < l.length by omega]
    rwa [e2] at this
  have h0 := h
  rw [← List.take_append_drop i l] at h0
  obtain ⟨p1, p2, p3⟩ := List.pairwise_append.1 h0
  unfold insP
  refine List.pairwise_append.2 ⟨p1, List.pairwise_cons.2 ⟨hb, p2⟩, fun a ha' b hb' => ?_⟩
  rcases List.mem_cons.1 hb' with e | e
  · rw [e]; exact ha a ha'
  · exact htr (ha a ha') (hb b e)
/-- The row that it leaves. -/
theorem Rk.del (h : Rk ss k l) {i t : Nat} (hi : i < l.length) (hpi : rowf l i = (p : Int)) (hp : p < ss.length) (htk : t ≠ k) : Rk (mvS ss p (t : Int)) k (delP i l) := by
  refine ⟨fun x => ?_, by rw [ordR_mv hp]; exact pair_delP h.srt⟩
  rw [mem_delP hi h.nodup, h.mem, hpi, mvS_len]
  constructor
  · rintro ⟨⟨j, h1, h2, h3⟩, h4⟩
    exact ⟨j, h1, h2, by rw [mvS_ne (by omega)]; exact h3⟩
  · rintro ⟨j, h1, h2, h3⟩
    by_cases e : j = p
    · subst e
      rw [mvS_at hp] at h3
      have h3 : (t : Int) = (k : Int) := h3
      omega
    · rw [mvS_ne e] at h3
      exact ⟨⟨j, h1, h2, h3⟩, by omega⟩
/-- The row that it comes into. -/
theorem Rk.ins (h : Rk ss k l) {i : Nat} (hp : p < ss.length) (hnk : (ss.getD p st0).core ≠ (k : Int)) (h1 : ∀ t, t < i → ordR ss (rowf l t) (p : Int)) (h2 : ∀ t, i ≤ t → t < l.length → ¬ ordR ss (rowf l t) (p : Int)) : Rk (mvS ss p (k : Int)) k (insP i (p : Int) l) := by
  have hpl : (p : Int) ∉ l := fun hm => by
    obtain ⟨j, _, g2, g3⟩ := (h.mem _).1 hm
    have : j = p := by omega
    subst this
    exact hnk g3
  refine ⟨fun x => ?_, ?_⟩
  · rw [mem_insP, h.mem, mvS_len]
    constructor
    · rintro (e | ⟨j, g1, g2, g3⟩)
      · exact ⟨p, hp, e, by rw [mvS_at hp]⟩
      · refine ⟨j, g1, g2, ?_⟩
        by_cases e : j = p
        · subst e; rw [mvS_at hp]
        · rw [mvS_ne e]; exact g3
    · rintro ⟨j, g1, g2, g3⟩
      by_cases e : j = p
      · subst e; exact .inl g2
      · rw [mvS_ne e] at g3
        exact .inr ⟨j, g1, g2, g3⟩
  · rw [ordR_mv hp]
    refine pair_insP h.srt (fun t ht _ => h1 t ht) (fun t ht htl => ?_) ordR_tr
    have hn := h2 t ht htl
    have hm : rowf l t ∈ l := mem_rowf.2 ⟨t, htl, rfl⟩
    have hne : rowf l t ≠ (p : Int) := fun e => hpl (e ▸ hm)
    unfold ordR at *
    omega
/-- All other rows. -/
theorem Rk.other (h : Rk ss k l) {t : Int} (hp : p < ss.length) (hnk : (ss.getD p st0).core ≠ (k : Int)) (htk : t ≠ (k : Int)) : Rk (mvS ss p t) k l := by
  refine ⟨fun x => ?_, by rw [ordR_mv hp]; exact h.srt⟩
  rw [h.mem, mvS_len]
  constructor
  · rintro ⟨j, g1, g2, g3⟩
    refine ⟨j, g1, g2, ?_⟩
    rw [mvS_ne (fun e => by subst e; exact hnk g3)]
    exact g3
  · rintro ⟨j, g1, g2, g3⟩
    by_cases e : j = p
    · subst e
      rw [mvS_at hp] at g3
      exact absurd g3 htk
    · rw [mvS_ne e] at g3
      exact ⟨j, g1, g2, g3⟩
end
/-- Seats in a block, from its first cell on. -/
structure So (w : World) (sb : Nat) (ss : List St) : Prop where
  bx : ∃ cs, Blk w sb 38 cs ∧ ∀ j i, j < ss.length → i < 3 → cs[j * 3 + i]? = some (sc (ss.getD j st0) i)
section
variable {w w' : World} {sb : Nat} {ss : List St} {S : Nat → Prop}
theorem So.kp (h : So w sb ss) (k : Kp S w w') (hs : ¬ S sb) : So w' sb ss := by
  obtain ⟨cs, hb, hc⟩ := h.bx
  exact ⟨cs, hb.kp k hs, hc⟩
theorem So.lt (h : So w sb ss) : sb < w.heap.size := by
  obtain ⟨cs, hb, hc⟩ := h.bx
  exact hb.lt
theorem So.rw (h : So w sb ss) {c : Nat} (h1 : ss.length ≤ c) (h2 : c ≤ maxLen) : Rw 3 sc st0 w (fun i => i = sb) (.slice (some ⟨sb, 0, none⟩) ss.length c) ss := by
  obtain ⟨cs, hb, hc⟩ := h.bx
  refine ⟨some ⟨sb, 0, none⟩, c, rfl, h1, h2, fun _ => ⟨sb, 0, rfl, hb.lt, rfl, fun j i hj hi => ?_⟩⟩
  rw [Nat.zero_add, hb.cell]
  exact hc j i hj hi
theorem So.set (h : So w sb ss) {p : Nat} (hp : p < ss.length) (t : Int) : So (w.setCell ⟨sb, p * 3 + 1, none⟩ (.int .i64 t)) sb (mvS ss p t) := by
  obtain ⟨cs, hb, hc⟩ := h.bx
  refine ⟨_, hb.put (p * 3 + 1) _, fun j i hj hi => ?_⟩
  rw [mvS_len] at hj
  have hsz : p * 3 + 1 < cs.size := (Array.getElem?_eq_some_iff.1 (hc p 1 hp (by omega))).1
  by_cases e : j * 3 + i = p * 3 + 1
  · have e1 : j = p := by omega
    have e2 : i = 1 := by omega
    subst e1 e2
    rw [Array.getElem?_setIfInBounds_self, mvS_at hp]
    simp [hsz, sc]
  · rw [Array.getElem?_setIfInBounds_ne (fun q => e q.symm), hc j i hj hi]
    by_cases e1 : j = p
    · subst e1
      rw [mvS_at hp]
      match i, hi with
      | 0, _ => rfl
      | 1, _ => exact absurd rfl e
      | 2, _ => rfl
    · rw [mvS_ne e1]
end
end Go.Proofs.Ytoeeighfjoplhaa

/-
  Contract of hall's put.
-/
namespace Go.Proofs.Ytoeeighfjoplhaa
open Go.RowKit
/-- The hall and its seats, as far as put has come. -/
structure Pu (w W : World) (Bd hb sb n c : Nat) (bs : Nat → Option Nat) (cp : Nat → Nat) (P : Nat → List Int) (ss : List St) : Prop where
  h : Hl W Bd hb (.slice (some ⟨sb, 0, none⟩) n c) bs cp P
  so : So W sb ss
  kp : Kp (fun i => i = sb ∨ Bd ≤ i) w W
section
variable {w W W' : World} {Bd hb sb n c : Nat} {bs : Nat → Option Nat} {cp : Nat → Nat} {P : Nat → List Int} {ss : List St}
theorem Pu.kp0 (h : Pu w W Bd hb sb n c bs cp P ss) (k : Kp No W W') : Pu w W' Bd hb sb n c bs cp P ss := ⟨h.h.kp0 k, h.so.kp k id, h.kp.step k fun _ _ e => e.elim⟩
theorem Pu.same (h : Pu w W Bd hb sb n c bs cp P ss) {k : Nat} (hk : k < 64) (hsb : sb < Bd) (kk : Kp (fun i => bs k = some i) W W') (r : RowI W' (bs k) (P k).length (cp k) (P k)) : Pu w W' Bd hb sb n c bs cp P ss := by
  refine ⟨(h.h.sorted hk rfl kk r).eq fun j _ => ?_, h.so.kp kk fun e => ?_, h.kp.step kk fun i hi e => .inr (h.h.los k hk i e)⟩
  · by_cases e : j = k
    · rw [e, upd_at]
    · rw [upd_ne _ _ e]
  · have := h.h.los k hk sb e
    omega
theorem So.core {w : World} {sb : Nat} {ss : List St} (h : So w sb ss) {p : Nat} (hp : p < ss.length) : w.cell? ⟨sb, p * 3 + 1, none⟩ = some (.int .i64 (ss.getD p st0).core) := by
  obtain ⟨cs, hb, hc⟩ := h.bx
  rw [hb.cell]
  exact hc p 1 hp (by omega)
theorem So.frozen {w : World} {sb : Nat} {ss : List St} (h : So w sb ss) (j : Nat) : w.frozen? ⟨sb, j, none⟩ = false := by
  obtain ⟨cs, hb, hc⟩ := h.bx
  exact hb.frozen j
/-- A row is another one, not laid into the head yet. -/
structure Pu2 (w W1 W : World) (Bd hb sb n c : Nat) (bs : Nat → Option Nat) (cp : Nat → Nat) (P : Nat → List Int) (ss : List St) (k : Nat) (b' : Option Nat) (c' : Nat) (ks : List Int) : Prop where
  e : Pu w W1 Bd hb sb n c bs cp P ss
  r : RowI W b' ks.length c' ks
  o : b' = bs k ∨ ∀ j, b' = some j → W1.heap.size ≤ j
  kk : Kp (fun i => bs k = some i) W1 W
theorem Pu2.core {W1 : World} {k p : Nat} {b' : Option Nat} {c' : Nat} {ks : List Int} (h : Pu2 w W1 W Bd hb sb n c bs cp P ss k b' c' ks) (hk : k < 64) (hsb : sb < Bd) (hp : p < ss.length) : W.cell? ⟨sb, p * 3 + 1, none⟩ = some (.int .i64 (ss.getD p st0).core) :=
  (h.kk.cell (p := ⟨sb, p * 3 + 1, none⟩) h.e.so.lt (fun e => by have := h.e.h.los k hk sb e; omega)).trans (h.e.so.core hp)
theorem Pu2.cell {W1 : World} {k t : Nat} {b' : Option Nat} {c' : Nat} {ks : List Int} (h : Pu2 w W1 W Bd hb sb n c bs cp P ss k b' c' ks) (hk : k < 64) (ht : t < 64) : W.cell? ⟨hb, 1 + t, none⟩ = some (gsl (bs t) (P t).length (cp t)) :=
  (h.kk.cell (p := ⟨hb, 1 + t, none⟩) h.e.h.lt (h.e.h.ne k hk)).trans (h.e.h.cell ht)
theorem Pu2.frozen {W1 : World} {k : Nat} {b' : Option Nat} {c' : Nat} {ks : List Int} (h : Pu2 w W1 W Bd hb sb n c bs cp P ss k b' c' ks) (hk : k < 64) (t : Nat) : W.frozen? ⟨hb, t, none⟩ = false := by
  obtain ⟨cs, hx, _, _⟩ := (h.e.h.part hk h.kk).1
  exact hx.frozen _
theorem Pu2.done {W1 : World} {k : Nat} {b' : Option Nat} {c' : Nat} {ks : List Int} (h : Pu2 w W1 W Bd hb sb n c bs cp P ss k b' c' ks) (hk : k < 64) (hsb : sb < Bd) : Pu w (W.setCell ⟨hb, 1 + k, none⟩ (gsl b' ks.length c')) Bd hb sb n c (upd bs k b') (upd cp k c') (upd P k ks) ss := by
  have hlo := h.e.h.lo
  refine ⟨h.e.h.set hk h.kk h.r h.o, (h.e.so.kp h.kk fun e => ?_).kp (Kp.set1 hb (1 + k) W _) fun e => ?_, (h.e.kp.step h.kk fun i hi e => ?_).step (Kp.set1 hb (1 + k) W _) fun i hi e => ?_⟩
  · have := h.e.h.los k hk sb e
    omega
  · have e : sb = hb := e
    omega
  · exact .inr (h.e.h.los k hk i e)
  · have e : i = hb := e
    exact .inr (by omega)
end
set_option maxRecDepth 100000 in
set_option maxHeartbeats 4000000 in
theorem put_any {w : World} {Bd hb sb n c p k t : Nat} {bs : Nat → Option Nat} {cp : Nat → Nat} {P : Nat → List Int} {ss : List St} (h : Hl w Bd hb (.slice (some ⟨sb, 0, none⟩) n c) bs cp P) (hP : ∀ k, k < 64 → Rk ss k (P k)) (hso : So w sb ss) (hsb : sb < Bd) (hn : ss.length = n) (hnc : n ≤ c ∧ c ≤ maxLen) (hn2 : n ≤ 900) (hp : p < n)
    (hk : k < 64) (hpk : (ss.getD p st0).core = (k : Int)) (ht : t < 64) (htk : t ≠ k) :
    Calls Try.prog 36 #[.pointer (some ⟨hb, 0, none⟩), .int .i64 (p : Int), .int .i64 (t : Int)] w fun e w' => e = .returned (.tuple #[]) ∧ ∃ bs' cp' P', Pu w w' Bd hb sb n c bs' cp' P' (mvS ss p (t : Int)) ∧ ∀ k, k < 64 → Rk (mvS ss p (t : Int)) k (P' k) := by
  have H0 := hid (show Pu w w Bd hb sb n c bs cp P ss from ⟨h, hso, Kp.refl _ _⟩)
  have HP := hid hP
  have HN := hid hn
  have HNC := hid hnc
  have HPK := hid hpk
  have mixed : Try.prog.follows .mixedOrders = true := by kernel_rfl
  have gp : (p : Int) < (n : Int) := by omega
  have gk : (k : Int) < 64 := by omega
  have gt : (t : Int) < 64 := by omega
  have gk0 : (0 : Int) ≤ (k : Int) := by omega
  have gt0 : (0 : Int) ≤ (t : Int) := by omega
  have HTK := hid htk
  have HB1 := hid (fun (W : World) (kw : Kp No w W) => show W.cell? ⟨sb, p * 3 + 1, none⟩ = some (.int .i64 (k : Int)) ∧ W.cell? ⟨hb, 1 + k, none⟩ = some (gsl (bs k) (P k).length (cp k)) from
    ⟨by rw [← hpk]; exact (hso.kp kw id).core (by omega), (h.kp0 kw).cell hk⟩)
  have hhd := h.head
  clear h hP hso hn hnc hpk htk
  go_enter Try.func36, Try.ntmps36
  go_upto_region 1 with fail
  clear hhd
  refine region_class (fun W => Kp No w W) 9 rfl mixed (by kernel_rfl) (by kernel_rfl) ((Kp.refl No w).drew) ?_
  simp only [List.take_succ_cons, List.take_zero]
  repeat ((first | ((with_reducible refine cl_val (v := ?_) ?_ ?_ ?_); rotate_left; (focus (go_simp; done)); (focus (intro w' hw; obtain ⟨z0, z1⟩ := HB1.out _ hw; go_simp; (try with_reducible rfl); done)))); simp only [Act.put, List.setIfInBounds_toArray, List.set_cons_zero, List.set_cons_succ])
  refine cl_nil fun w1 hw => ?_
  have F1 := hid (H0.out.kp0 hw)
  clear hw HB1 H0
  have HCMP := hid (fun (W : World) (bs : Nat → Option Nat) (cp : Nat → Nat) (P : Nat → List Int) (f : Pu w W Bd hb sb n c bs cp P ss) (k : Nat) (hk : k < 64) (q : Nat) (hq : bs k = some q) =>
    show Cmp W q 41 #[.pointer (some ⟨hb, 0, none⟩)] #[] (plc n) (ordC ss) from ⟨fun args w => by first | rfl | kernel_rfl, fun W2 kW x y hx hy => by
      obtain ⟨i1, h1, rfl⟩ := hx
      obtain ⟨j1, h2, rfl⟩ := hy
      have hcell : W2.cell? ⟨hb, 0, none⟩ = some (.slice (some ⟨sb, 0, none⟩) n c) := (kW.cell (p := ⟨hb, 0, none⟩) f.h.lt (fun e => f.h.ne k hk (by rw [hq]; exact congrArg some e.symm))).trans f.h.head
      have hrw0 := (f.so.kp kW (fun e => by
        have e : sb = q := e
        have := f.h.los k hk q hq
        omega)).rw (c := c) (by have := HNC.out; have := HN.out; omega) HNC.out.2
      rw [HN.out] at hrw0
      refine (order_any hcell hrw0.anyP HN.out (by omega) h1 h2).mono ?_
      rintro e w' ⟨rfl, k'⟩
      exact ⟨rfl, k'⟩⟩)
  have HVP := hid (fun k (hk : k < 64) x (hx : x ∈ P k) => show plc n x from by
    obtain ⟨q, h1, h2, _⟩ := ((HP.out k hk).mem x).1 hx
    exact ⟨q, by have := HN.out; omega, h2⟩)
  have HLN := hid (fun k (hk : k < 64) => show (P k).length ≤ 900 from by have := (HP.out k hk).len; have := HN.out; omega)
  have HSE := hid (search_row (R := ordR ss) (V := plc n) (cf := ordC ss) (g := 41) (bd := #[.pointer (some ⟨hb, 0, none⟩)]) (cb := #[]) (w := w1) (tv := (p : Int)) (ord_tot ss n) (F1.out.h.rows k hk) (fun q hq => HCMP.out w1 bs cp P F1.out k hk q hq) (HVP.out k hk) (HP.out k hk).srt ⟨p, hp, rfl⟩ (by have := HLN.out k hk; omega))
  unfold gsl at HSE ⊢
  go_upto_region 3 with (go_at_call 47; refine HSE.out.mono ?_; rintro e w2 ⟨i, q, rfl, hi1, hi2, hi3, r2, k2⟩; have HI := hid (And.intro hi1 (And.intro hi2 hi3)); have K2 := hid k2; have R2 := hid r2; clear hi1 hi2 hi3 k2 r2)
  have HID := hid (show i < (P k).length ∧ rowf (P k) i = (p : Int) from by
    obtain ⟨j, hj, e⟩ := mem_rowf.1 (((HP.out k hk).mem (p : Int)).2 ⟨p, by have := HN.out; omega, rfl, HPK.out⟩)
    have hs := pair_srt (HP.out k hk).srt
    have c1 : ¬ j < i := fun c => by
      have := HI.out.2.1 j c
      rw [← e] at this
      exact ordR_irr _ _ this
    rcases Nat.lt_or_eq_of_le (show i ≤ j by omega) with c2 | c2
    · have := hs i j (Nat.zero_le _) c2 hj
      rw [← e] at this
      exact absurd this (HI.out.2.2 i (Nat.le_refl _) (by omega))
    · subst c2
      exact ⟨hj, e.symm⟩)
  have F2 := hid (F1.out.same hk hsb K2.out R2.out)
  clear HSE HI K2 R2 F1
  have wi := wrapI (x := (i : Int) + 1) (by have := HID.out.1; have := HLN.out k hk; unfold I64; omega)
  have HDEL := hid (fun (W : World) (f : Pu w W Bd hb sb n c bs cp P ss) => show Calls Try.prog 48 #[.slice (ga (bs k)) (P k).length (cp k), .int .i64 (i : Int), .int .i64 ((i : Int) + 1)] W (fun e w' => e = .returned (.slice (ga (bs k)) ((P k).length - 1) (cp k)) ∧ (RowI w' (bs k) ((P k).length - 1) (cp k) (delP i (P k)) ∧ Kp (fun j => bs k = some j) W w')) from by
    obtain ⟨kb, hkb, hdel⟩ := del_row (f.h.rows k hk) HID.out.1
    refine hdel.mono ?_
    rintro e w' ⟨rfl, r, kk⟩
    exact ⟨rfl, r, kk.own fun j hj => by rw [hkb]; exact hj⟩)
  have HDL := hid (show (delP i (P k)).length = (P k).length - 1 from by have := delP_len HID.out.1; omega)
  have HCO := hid (fun (W : World) (f : Pu w W Bd hb sb n c bs cp P ss) => show W.cell? ⟨sb, p * 3 + 1, none⟩ = some (.int .i64 (k : Int)) from by rw [← HPK.out]; exact f.so.core (by have := HN.out; omega))
  have HCO2 := hid (fun (W1 W : World) (b' : Option Nat) (c' : Nat) (ks : List Int) (f : Pu2 w W1 W Bd hb sb n c bs cp P ss k b' c' ks) => show W.cell? ⟨sb, p * 3 + 1, none⟩ = some (.int .i64 (k : Int)) from by rw [← HPK.out]; exact f.core hk hsb (by have := HN.out; omega))
  go_upto_region 3 with fail
  refine region_lass 13 rfl (by kernel_rfl) (by kernel_rfl) ?_
  simp only [List.take_succ_cons, List.take_zero, List.length_cons, List.length_nil, Nat.reduceAdd]
  have Fd4 := hid (F2.out.kp0 (Kp.refl No w2).drew)
  generalize World.drew w2 = Wd4 at Fd4 ⊢
  have HS5 : (fun w' : World => w'.cell? ⟨sb, p * 3 + 1, none⟩ = some (.int .i64 (k : Int))) Wd4 := (by first | exact HCO.out _ Fd4.out | exact HCO2.out _ _ _ _ _ Fd4.out)
  (try simp only at HS5)
  refine wpAny_of_held (S := (fun w' : World => w'.cell? ⟨sb, p * 3 + 1, none⟩ = some (.int .i64 (k : Int)))) _ _ _ _ ?_
  simp only [Array.replicate_succ, Array.replicate_zero, List.push_toArray, List.nil_append, List.cons_append]
  refine wpAnyH_take (i := 0) (v := ?_) rfl (by kernel_rfl) (by kernel_rfl) (by kernel_rfl) (fun _ _ _ h => h) (Or.inl ⟨by rfl, ?_⟩) HS5 ?_
  rotate_left
  · (intro w6 hS6; have z0 := hS6; (try go_simp); (try with_reducible rfl))
  simp only [List.getElem_toArray, List.getElem_cons_zero, Act.put, List.setIfInBounds_toArray, List.set_cons_zero, List.set_cons_succ]
  refine wpAnyH_take (i := 1) (v := ?_) rfl (by kernel_rfl) (by kernel_rfl) (by kernel_rfl) (fun _ _ _ h => h) (Or.inl ⟨by rfl, ?_⟩) HS5 ?_
  rotate_left
  · (intro w6 hS6; have z0 := hS6; (try go_simp); (try with_reducible rfl))
  simp only [List.getElem_toArray, List.getElem_cons_zero, List.getElem_cons_succ, Act.put, List.setIfInBounds_toArray, List.set_cons_zero, List.set_cons_succ]
  refine wpAnyH_take (i := 2) (v := ?_) rfl (by kernel_rfl) (by kernel_rfl) (by kernel_rfl) (fun _ _ _ h => h) (Or.inl ⟨by rfl, ?_⟩) HS5 ?_
  rotate_left
  · (intro w6 hS6; have z0 := hS6; (try go_simp); (try with_reducible rfl))
  simp only [List.getElem_toArray, List.getElem_cons_zero, List.getElem_cons_succ, Act.put, List.setIfInBounds_toArray, List.set_cons_zero, List.set_cons_succ]
  refine wpAnyH_take (i := 3) (v := ?_) rfl (by kernel_rfl) (by kernel_rfl) (by kernel_rfl) (fun _ _ _ h => h) (Or.inl ⟨by rfl, ?_⟩) HS5 ?_
  rotate_left
  · (intro w6 hS6; have z0 := hS6; (try go_simp); (try with_reducible rfl))
  simp only [List.getElem_toArray, List.getElem_cons_zero, List.getElem_cons_succ, Act.put, List.setIfInBounds_toArray, List.set_cons_zero, List.set_cons_succ]
  refine wpAnyH_take (i := 4) (v := ?_) rfl (by kernel_rfl) (by kernel_rfl) (by kernel_rfl) (fun _ _ _ h => h) (Or.inl ⟨by rfl, ?_⟩) HS5 ?_
  rotate_left
  · (intro w6 hS6; have z0 := hS6; (try go_simp); (try with_reducible rfl))
  simp only [List.getElem_toArray, List.getElem_cons_zero, List.getElem_cons_succ, Act.put, List.setIfInBounds_toArray, List.set_cons_zero, List.set_cons_succ]
  refine wpAnyH_take (i := 5) (v := ?_) rfl (by kernel_rfl) (by kernel_rfl) (by kernel_rfl) (fun _ _ _ h => h) (Or.inl ⟨by rfl, ?_⟩) HS5 ?_
  rotate_left
  · (intro w6 hS6; have z0 := hS6; (try go_simp); (try with_reducible rfl))
  simp only [List.getElem_toArray, List.getElem_cons_zero, List.getElem_cons_succ, Act.put, List.setIfInBounds_toArray, List.set_cons_zero, List.set_cons_succ]
  refine wpAnyH_take (i := 6) (v := ?_) rfl (by kernel_rfl) (by kernel_rfl) (by kernel_rfl) (fun _ _ _ h => h) (Or.inl ⟨by rfl, ?_⟩) HS5 ?_
  rotate_left
  · (intro w6 hS6; have z0 := hS6; (try go_simp); (try with_reducible rfl))
  simp only [List.getElem_toArray, List.getElem_cons_zero, List.getElem_cons_succ, Act.put, List.setIfInBounds_toArray, List.set_cons_zero, List.set_cons_succ]
  refine wpAnyH_take (i := 7) (v := ?_) rfl (by kernel_rfl) (by kernel_rfl) (by kernel_rfl) (fun _ _ _ h => h) (Or.inl ⟨by rfl, ?_⟩) HS5 ?_
  rotate_left
  · (intro w6 hS6; have z0 := hS6; (try go_simp); (try with_reducible rfl))
  simp only [List.getElem_toArray, List.getElem_cons_zero, List.getElem_cons_succ, Act.put, List.setIfInBounds_toArray, List.set_cons_zero, List.set_cons_succ]
  refine wpAnyH_take (i := 8) (v := ?_) rfl (by kernel_rfl) (by kernel_rfl) (by kernel_rfl) (fun _ _ _ h => h) (Or.inl ⟨by rfl, ?_⟩) HS5 ?_
  rotate_left
  · (intro w6 hS6; have z0 := hS6; (try go_simp); (try with_reducible rfl))
  simp only [List.getElem_toArray, List.getElem_cons_zero, List.getElem_cons_succ, Act.put, List.setIfInBounds_toArray, List.set_cons_zero, List.set_cons_succ]
  refine wpAnyH_take (i := 10) (v := ?_) rfl (by kernel_rfl) (by kernel_rfl) (by kernel_rfl) (fun _ _ _ h => h) (Or.inl ⟨by rfl, ?_⟩) HS5 ?_
  rotate_left
  · (intro w6 hS6; have z0 := hS6; (try go_simp); (try with_reducible rfl))
  simp only [List.getElem_toArray, List.getElem_cons_zero, List.getElem_cons_succ, Act.put, List.setIfInBounds_toArray, List.set_cons_zero, List.set_cons_succ]
  refine wpAnyH_take (i := 11) (v := ?_) rfl (by kernel_rfl) (by kernel_rfl) (by kernel_rfl) (fun _ _ _ h => h) (Or.inl ⟨by rfl, ?_⟩) HS5 ?_
  rotate_left
  · (intro w6 hS6; have z0 := hS6; (try go_simp); (try with_reducible rfl))
  simp only [List.getElem_toArray, List.getElem_cons_zero, List.getElem_cons_succ, Act.put, List.setIfInBounds_toArray, List.set_cons_zero, List.set_cons_succ]
  clear HS5
  refine wpAnyH_ready (rs := [9]) (by kernel_rfl) (by simp) (AllReadyH.cons rfl (fun K hK => ?_) AllReadyH.nil)
  refine step_callv (by rfl) (by go_simp) (HDEL.out _ Fd4.out) ?_
  rintro wn5 ⟨hr, hkk⟩
  have Fn5 := hid (show Pu2 w Wd4 wn5 Bd hb sb n c bs cp P ss k (bs k) (cp k) (delP i (P k)) from ⟨Fd4.out, by rw [HDL.out]; exact hr, .inl rfl, hkk⟩)
  clear hr hkk Fd4
  refine hK.out _ _ ((by first | exact HCO.out _ Fn5.out | exact HCO2.out _ _ _ _ _ Fn5.out)) (fun hS => ?_)
  clear hK
  simp only [List.setIfInBounds_toArray, List.set_cons_zero, List.set_cons_succ, Act.put]
  refine wpAnyH_take (i := 12) (v := ?_) rfl (by kernel_rfl) (by kernel_rfl) (by kernel_rfl) (fun _ _ _ h => h) (Or.inl ⟨by rfl, ?_⟩) hS ?_
  rotate_left
  · (intro w6 hS6; have z0 := hS6; (try go_simp); (try with_reducible rfl))
  simp only [List.getElem_toArray, List.getElem_cons_zero, List.getElem_cons_succ, Act.put, List.setIfInBounds_toArray, List.set_cons_zero, List.set_cons_succ]
  clear hS
  refine wpAnyH_done (by kernel_rfl) ?_ _
  refine then_of ?_
  simp only [List.cons_append, List.nil_append]
  have cq := Fn5.out.cell hk hk
  have fq := Fn5.out.frozen hk (1 + k)
  unfold gsl at cq
  have FX := hid (Fn5.out.done hk hsb)
  rw [HDL.out] at FX
  unfold gsl at FX
  go_upto_region 4 with fail
  generalize wn5.setCell ⟨hb, 1 + k, none⟩ (.slice (ga (bs k)) ((P k).length - 1) (cp k)) = w5 at FX ⊢
  clear cq fq Fn5
  obtain ⟨P1, hP1⟩ : ∃ q, upd P k (delP i (P k)) = q := ⟨_, rfl⟩
  obtain ⟨bs1, hbs1⟩ : ∃ q, upd bs k (bs k) = q := ⟨_, rfl⟩
  obtain ⟨cp1, hcp1⟩ : ∃ q, upd cp k (cp k) = q := ⟨_, rfl⟩
  rw [hP1, hbs1, hcp1] at FX
  have HP1 := hid (show P1 k = delP i (P k) ∧ ∀ j, j ≠ k → P1 j = P j from by subst hP1; exact ⟨upd_at _ _ _, fun j hj => upd_ne _ _ hj⟩)
  clear hP1 hbs1 hcp1 HDEL HDL HCO HCO2
  have HPT := hid (HP1.out.2 t HTK.out)
  have ct := FX.out.h.cell ht
  have HSE := hid (search_row (R := ordR ss) (V := plc n) (cf := ordC ss) (g := 41) (bd := #[.pointer (some ⟨hb, 0, none⟩)]) (cb := #[]) (w := w5) (tv := (p : Int)) (ord_tot ss n) (FX.out.h.rows t ht) (fun q hq => HCMP.out w5 bs1 cp1 P1 FX.out t ht q hq) (by rw [HPT.out]; exact HVP.out t ht) (by rw [HPT.out]; exact (HP.out t ht).srt) ⟨p, hp, rfl⟩ (by rw [HPT.out]; have := HLN.out t ht; omega))
  unfold gsl at HSE ct
  go_upto_region 5 with (go_at_call 47; refine HSE.out.mono ?_; rintro e w6 ⟨i2, q2, rfl, hi1, hi2, hi3, r2, k2⟩; have HI2 := hid (And.intro hi1 (And.intro hi2 hi3)); have K2 := hid k2; have R2 := hid r2; clear hi1 hi2 hi3 k2 r2)
  have F4 := hid (FX.out.same ht hsb K2.out R2.out)
  clear HSE K2 R2 FX ct
  have HINS := hid (fun (W : World) (f : Pu w W Bd hb sb n c bs1 cp1 P1 ss) (vb : Nat) (hv : Blk W vb 3 #[.int .i64 (p : Int)]) (hne : bs1 t ≠ some vb) => show Calls Try.prog 49 #[.slice (ga (bs1 t)) (P1 t).length (cp1 t), .int .i64 (i2 : Int), .slice (some ⟨vb, 0, none⟩) 1 1] W (fun e w' => ∃ v, e = .returned v ∧ ∃ b' c', v = gsl b' ((P1 t).length + 1) c' ∧ RowI w' b' ((P1 t).length + 1) c' (insP i2 (p : Int) (P1 t)) ∧ (b' = bs1 t ∨ ∀ k, b' = some k → W.heap.size ≤ k) ∧ Kp (fun j => bs1 t = some j) W w') from by
    refine (ins_row (f.h.rows t ht) (by rw [HPT.out]; have := HLN.out t ht; omega) HI2.out.1 hv hne).mono ?_
    rintro e w' ⟨b', c', rfl, r, o, kk⟩
    exact ⟨_, rfl, b', c', rfl, r, o, kk⟩)
  have HIL := hid (insP_len (p : Int) (show i2 ≤ (P1 t).length from HI2.out.1))
  have HCT := hid (fun (W : World) (f : Pu w W Bd hb sb n c bs1 cp1 P1 ss) => show W.cell? ⟨hb, 1 + t, none⟩ = some (.slice (ga (bs1 t)) (P1 t).length (cp1 t)) from f.h.cell ht)
  have HCT2 := hid (fun (W1 W : World) (b' : Option Nat) (c' : Nat) (ks : List Int) (f : Pu2 w W1 W Bd hb sb n c bs1 cp1 P1 ss t b' c' ks) => show W.cell? ⟨hb, 1 + t, none⟩ = some (.slice (ga (bs1 t)) (P1 t).length (cp1 t)) from f.cell ht ht)
  have HOL := hid (fun (W : World) (f : Pu w W Bd hb sb n c bs1 cp1 P1 ss) => show bs1 t ≠ some W.heap.size from fun e => by
    have := f.h.rows t ht
    rw [e] at this
    have := this.lt
    omega)
  refine region_lass 15 rfl (by kernel_rfl) (by kernel_rfl) ?_
  simp only [List.take_succ_cons, List.take_zero, List.length_cons, List.length_nil, Nat.reduceAdd]
  have Fd1 := hid (F4.out.kp0 (Kp.refl No w6).drew)
  generalize World.drew w6 = Wd1 at Fd1 ⊢
  have HS5 : (fun w' : World => w'.cell? ⟨hb, 1 + t, none⟩ = some (.slice (ga (bs1 t)) (P1 t).length (cp1 t))) Wd1 := (by first | exact HCT.out _ Fd1.out | exact HCT2.out _ _ _ _ _ Fd1.out)
  (try simp only at HS5)
  refine wpAny_of_held (S := (fun w' : World => w'.cell? ⟨hb, 1 + t, none⟩ = some (.slice (ga (bs1 t)) (P1 t).length (cp1 t)))) _ _ _ _ ?_
  simp only [Array.replicate_succ, Array.replicate_zero, List.push_toArray, List.nil_append, List.cons_append]
  refine wpAnyH_take (i := 0) (v := ?_) rfl (by kernel_rfl) (by kernel_rfl) (by kernel_rfl) (fun _ _ _ h => h) (Or.inl ⟨by rfl, ?_⟩) HS5 ?_
  rotate_left
  · (intro w6 hS6; have z0 := hS6; (try go_simp); (try with_reducible rfl))
  simp only [List.getElem_toArray, List.getElem_cons_zero, Act.put, List.setIfInBounds_toArray, List.set_cons_zero, List.set_cons_succ]
  refine wpAnyH_take (i := 1) (v := ?_) rfl (by kernel_rfl) (by kernel_rfl) (by kernel_rfl) (fun _ _ _ h => h) (Or.inl ⟨by rfl, ?_⟩) HS5 ?_
  rotate_left
  · (intro w6 hS6; have z0 := hS6; (try go_simp); (try with_reducible rfl))
  simp only [List.getElem_toArray, List.getElem_cons_zero, List.getElem_cons_succ, Act.put, List.setIfInBounds_toArray, List.set_cons_zero, List.set_cons_succ]
  refine wpAnyH_take (i := 2) (v := ?_) rfl (by kernel_rfl) (by kernel_rfl) (by kernel_rfl) (fun _ _ _ h => h) (Or.inl ⟨by rfl, ?_⟩) HS5 ?_
  rotate_left
  · (intro w6 hS6; have z0 := hS6; (try go_simp); (try with_reducible rfl))
  simp only [List.getElem_toArray, List.getElem_cons_zero, List.getElem_cons_succ, Act.put, List.setIfInBounds_toArray, List.set_cons_zero, List.set_cons_succ]
  refine wpAnyH_take (i := 3) (v := ?_) rfl (by kernel_rfl) (by kernel_rfl) (by kernel_rfl) (fun _ _ _ h => h) (Or.inl ⟨by rfl, ?_⟩) HS5 ?_
  rotate_left
  · (intro w6 hS6; have z0 := hS6; (try go_simp); (try with_reducible rfl))
  simp only [List.getElem_toArray, List.getElem_cons_zero, List.getElem_cons_succ, Act.put, List.setIfInBounds_toArray, List.set_cons_zero, List.set_cons_succ]
  refine wpAnyH_take (i := 4) (v := ?_) rfl (by kernel_rfl) (by kernel_rfl) (by kernel_rfl) (fun _ _ _ h => h) (Or.inl ⟨by rfl, ?_⟩) HS5 ?_
  rotate_left
  · (intro w6 hS6; have z0 := hS6; (try go_simp); (try with_reducible rfl))
  simp only [List.getElem_toArray, List.getElem_cons_zero, List.getElem_cons_succ, Act.put, List.setIfInBounds_toArray, List.set_cons_zero, List.set_cons_succ]
  refine wpAnyH_take (i := 5) (v := ?_) rfl (by kernel_rfl) (by kernel_rfl) (by kernel_rfl) (fun _ _ _ h => h) (Or.inl ⟨by rfl, ?_⟩) HS5 ?_
  rotate_left
  · (intro w6 hS6; have z0 := hS6; (try go_simp); (try with_reducible rfl))
  simp only [List.getElem_toArray, List.getElem_cons_zero, List.getElem_cons_succ, Act.put, List.setIfInBounds_toArray, List.set_cons_zero, List.set_cons_succ]
  refine wpAnyH_take (i := 6) (v := ?_) rfl (by kernel_rfl) (by kernel_rfl) (by kernel_rfl) (fun _ _ _ h => h) (Or.inl ⟨by rfl, ?_⟩) HS5 ?_
  rotate_left
  · (intro w6 hS6; have z0 := hS6; (try go_simp); (try with_reducible rfl))
  simp only [List.getElem_toArray, List.getElem_cons_zero, List.getElem_cons_succ, Act.put, List.setIfInBounds_toArray, List.set_cons_zero, List.set_cons_succ]
  refine wpAnyH_take (i := 7) (v := ?_) rfl (by kernel_rfl) (by kernel_rfl) (by kernel_rfl) (fun _ _ _ h => h) (Or.inl ⟨by rfl, ?_⟩) HS5 ?_
  rotate_left
  · (intro w6 hS6; have z0 := hS6; (try go_simp); (try with_reducible rfl))
  simp only [List.getElem_toArray, List.getElem_cons_zero, List.getElem_cons_succ, Act.put, List.setIfInBounds_toArray, List.set_cons_zero, List.set_cons_succ]
  refine wpAnyH_take (i := 8) (v := ?_) rfl (by kernel_rfl) (by kernel_rfl) (by kernel_rfl) (fun _ _ _ h => h) (Or.inl ⟨by rfl, ?_⟩) HS5 ?_
  rotate_left
  · (intro w6 hS6; have z0 := hS6; (try go_simp); (try with_reducible rfl))
  simp only [List.getElem_toArray, List.getElem_cons_zero, List.getElem_cons_succ, Act.put, List.setIfInBounds_toArray, List.set_cons_zero, List.set_cons_succ]
  refine wpAnyH_take (i := 9) (v := ?_) rfl (by kernel_rfl) (by kernel_rfl) (by kernel_rfl) (fun _ _ _ h => h) (Or.inl ⟨by rfl, ?_⟩) HS5 ?_
  rotate_left
  · (intro w6 hS6; have z0 := hS6; (try go_simp); (try with_reducible rfl))
  simp only [List.getElem_toArray, List.getElem_cons_zero, List.getElem_cons_succ, Act.put, List.setIfInBounds_toArray, List.set_cons_zero, List.set_cons_succ]
  refine wpAnyH_take (i := 12) (v := ?_) rfl (by kernel_rfl) (by kernel_rfl) (by kernel_rfl) (fun _ _ _ h => h) (Or.inl ⟨by rfl, ?_⟩) HS5 ?_
  rotate_left
  · (intro w6 hS6; have z0 := hS6; (try go_simp); (try with_reducible rfl))
  simp only [List.getElem_toArray, List.getElem_cons_zero, List.getElem_cons_succ, Act.put, List.setIfInBounds_toArray, List.set_cons_zero, List.set_cons_succ]
  refine wpAnyH_take (i := 13) (v := ?_) rfl (by kernel_rfl) (by kernel_rfl) (by kernel_rfl) (fun _ _ _ h => h) (Or.inl ⟨by rfl, ?_⟩) HS5 ?_
  rotate_left
  · (intro w6 hS6; have z0 := hS6; (try go_simp); (try with_reducible rfl))
  simp only [List.getElem_toArray, List.getElem_cons_zero, List.getElem_cons_succ, Act.put, List.setIfInBounds_toArray, List.set_cons_zero, List.set_cons_succ]
  clear HS5
  refine wpAnyH_ready (rs := [10]) (by kernel_rfl) (by simp) (AllReadyH.cons rfl (fun K hK => ?_) AllReadyH.nil)
  simp only [List.getElem_toArray, List.getElem_cons_zero, List.getElem_cons_succ]
  go_simp
  have Un2 := hid (Blk.new Wd1 3 #[.int .i64 (p : Int)])
  have Fo2 := hid (HOL.out _ Fd1.out)
  have Fn2 := hid (Fd1.out.kp0 ((Kp.refl No Wd1).alloc (.cells #[.int .i64 (p : Int)] 3)))
  obtain ⟨bu2, hbu⟩ : ∃ b, Wd1.heap.size = b := ⟨_, rfl⟩
  rw [hbu] at Un2 Fo2 ⊢
  generalize Wd1.alloc (.cells #[.int .i64 (p : Int)] 3) = wn2 at Un2 Fn2 ⊢
  clear hbu Fd1
  refine hK.out _ _ ((by first | exact HCT.out _ Fn2.out | exact HCT2.out _ _ _ _ _ Fn2.out)) (fun hS => ?_)
  clear hK
  simp only [List.setIfInBounds_toArray, List.set_cons_zero, List.set_cons_succ]
  clear hS
  refine wpAnyH_ready (rs := [11]) (by kernel_rfl) (by simp) (AllReadyH.cons rfl (fun K hK => ?_) AllReadyH.nil)
  refine step_callg (by rfl) (by go_simp) (HINS.out _ Fn2.out bu2 Un2.out Fo2.out) ?_
  rintro _ wn3 ⟨b3, c3, rfl, hr, ho, hkk⟩
  have Fn3 := hid (show Pu2 w wn2 wn3 Bd hb sb n c bs1 cp1 P1 ss t b3 c3 (insP i2 (p : Int) (P1 t)) from ⟨Fn2.out, by rw [HIL.out]; exact hr, ho, hkk⟩)
  clear hr ho hkk Fn2 Un2
  refine hK.out _ _ ((by first | exact HCT.out _ Fn3.out | exact HCT2.out _ _ _ _ _ Fn3.out)) (fun hS => ?_)
  clear hK
  simp only [List.setIfInBounds_toArray, List.set_cons_zero, List.set_cons_succ, Act.put]
  refine wpAnyH_take (i := 14) (v := ?_) rfl (by kernel_rfl) (by kernel_rfl) (by kernel_rfl) (fun _ _ _ h => h) (Or.inl ⟨by rfl, ?_⟩) hS ?_
  rotate_left
  · (intro w6 hS6; have z0 := hS6; (try go_simp); (try with_reducible rfl))
  simp only [List.getElem_toArray, List.getElem_cons_zero, List.getElem_cons_succ, Act.put, List.setIfInBounds_toArray, List.set_cons_zero, List.set_cons_succ]
  clear hS
  refine wpAnyH_done (by kernel_rfl) ?_ _
  refine then_of ?_
  simp only [List.cons_append, List.nil_append]
  have cq := Fn3.out.cell ht ht
  have fq := Fn3.out.frozen ht (1 + t)
  unfold gsl at cq ⊢
  have FY := hid (Fn3.out.done ht hsb)
  rw [HIL.out] at FY
  unfold gsl at FY
  go_upto_region 6 with fail
  generalize wn3.setCell ⟨hb, 1 + t, none⟩ (.slice (ga b3) ((P1 t).length + 1) c3) = w7 at FY ⊢
  clear cq fq Fn3
  have HRKK := hid (show ∀ j, j < 64 → Rk (mvS ss p (t : Int)) j (upd P1 t (insP i2 (p : Int) (P1 t)) j) from fun j hj => by
    have hpl : p < ss.length := by have := HN.out; omega
    by_cases e : j = t
    · subst e
      rw [upd_at, HPT.out]
      have h2 := HI2.out
      rw [HPT.out] at h2
      exact (HP.out j hj).ins hpl (by rw [HPK.out]; intro q; exact HTK.out (by omega)) h2.2.1 h2.2.2
    · rw [upd_ne _ _ e]
      by_cases e2 : j = k
      · subst e2
        rw [HP1.out.1]
        exact (HP.out j hj).del HID.out.1 HID.out.2 hpl (fun q => e q.symm)
      · rw [HP1.out.2 j e2]
        exact (HP.out j hj).other hpl (by rw [HPK.out]; intro q; exact e2 (by omega)) (by intro q; exact e (by omega)))
  have hpl : p < ss.length := by have := HN.out; omega
  have c6 := FY.out.so.core hpl
  have f6 := FY.out.so.frozen (p * 3 + 1)
  go_wp2_with fail
  go_end0
  exact ⟨rfl, _, _, _, ⟨FY.out.h.kp (Kp.set1 sb (p * 3 + 1) _ (.int .i64 (t : Int))) (fun e => by have e : hb = sb := e; have := FY.out.h.lo; omega) fun j hj b hbj e => by have e : b = sb := e; have := FY.out.h.los j hj b hbj; omega,
    FY.out.so.set hpl (t : Int), FY.out.kp.step (Kp.set1 sb (p * 3 + 1) _ (.int .i64 (t : Int))) fun j hj e => .inl e⟩, HRKK.out⟩
end Go.Proofs.Ytoeeighfjoplhaa

namespace Go.Proofs.Ytoeeighfjoplhaa
/-- How many seats are on core k. -/
def cnt (ss : List St) (k : Nat) : Nat := (plcs ss k ss.length).length
theorem plcs_nodup (ss : List St) (k n : Nat) : (plcs ss k n).Nodup := (plcs_rise ss k n).imp fun h => by omega
theorem Rk.cnt {ss : List St} {k : Nat} {l : List Int} (h : Rk ss k l) : l.length = cnt ss k := by
  refine Nat.le_antisymm (nodup_le _ _ h.nodup fun x hx => mem_plcs.2 ((h.mem x).1 hx)) (nodup_le _ _ (plcs_nodup ss k ss.length) fun x hx => (h.mem x).2 (mem_plcs.1 hx))
/-- The loads of all cores. -/
def ldS (ss : List St) : List Int := (List.range 64).map fun k => (cnt ss k : Int)
theorem ldS_len (ss : List St) : (ldS ss).length = 64 := by simp [ldS]
theorem ldS_at (ss : List St) {k : Nat} (hk : k < 64) : ldF (ldS ss) (k : Int) = (cnt ss k : Int) := by
  unfold ldF ldS
  simp [List.getD, hk]
theorem ldL_S {ss : List St} {P : Nat → List Int} (h : ∀ k, k < 64 → Rk ss k (P k)) : ldL P = ldS ss := by
  unfold ldL ldS
  refine List.map_congr_left fun k hk => ?_
  rw [(h k (List.mem_range.1 hk)).cnt]
/-- A move of seat p to core t. -/
structure Mv1 (on : Nat) (ss : List St) (p t : Nat) : Prop where
  pl : p < ss.length
  t64 : t < 64
  ton : on.testBit t = true
  tcs : (ss.getD p st0).cs.testBit t = true
  frm : ∃ k : Nat, k < 64 ∧ (ss.getD p st0).core = (k : Int) ∧ on.testBit k = true ∧ cnt ss t + 1 < cnt ss k
  all : ∃ (P : Nat → List Int) (x : Int), (∀ k, k < 64 → Rk ss k (P k)) ∧ MvY ss (ldS ss) P on x (p : Int) (t : Int)
theorem MvY.mv1 {on : Nat} {ss : List St} {P : Nat → List Int} {x p t : Int} (hP : ∀ k, k < 64 → Rk ss k (P k)) (h : MvY ss (ldL P) P on x p t) : ∃ p' t' : Nat, p = (p' : Int) ∧ t = (t' : Int) ∧ Mv1 on ss p' t' := by
  rw [ldL_S hP] at h
  obtain ⟨k, h1, h2, h3⟩ := h.xin
  have hp := h.pin
  rw [h2] at hp
  obtain ⟨p', g1, g2, g3⟩ := ((hP k h1).mem p).1 (by simpa using hp)
  obtain ⟨g, m1, m2, m3, m4⟩ := h.mov
  rcases h.goal with ⟨_, hno⟩ | ⟨t', e, t1, t2, t3, t4⟩
  · have := hno g m1 (by rw [ldS_len]; exact m1)
    rw [Nat.testBit_and, m3, m2] at this
    cases this
  · rw [Nat.testBit_and, Bool.and_eq_true] at t3
    have hle := (t4 g m1 (by rw [ldS_len]; exact m1) (by rw [Nat.testBit_and, m3, m2]; rfl)).1
    have hcs : csAt ss p = (ss.getD p' st0).cs := by rw [g2]; unfold csAt; rw [Int.toNat_natCast]
    rw [h2, ldS_at ss h1] at m4
    rw [ldS_at ss t1] at hle
    rw [ldS_at ss m1] at m4 hle
    refine ⟨p', t', g2, e, ⟨g1, t1, t3.2, by rw [← hcs]; exact t3.1, ⟨k, h1, g3, h3, by omega⟩, ⟨P, x, hP, ?_⟩⟩⟩
    rw [← g2, ← e]
    exact h
theorem Mv1.one {on : Nat} {ss : List St} {p t p' t' : Nat} (h : Mv1 on ss p t) (h' : Mv1 on ss p' t') : p = p' ∧ t = t' := by
  obtain ⟨P, x, hP, hy⟩ := h.all
  obtain ⟨P', x', hP', hy'⟩ := h'.all
  have e : ∀ k, k < 64 → P k = P' k := fun k hk => (hP k hk).one (hP' k hk)
  have hx' : MvY ss (ldS ss) P on x' (p' : Int) (t' : Int) := by
    obtain ⟨k, h1, h2, h3⟩ := hy'.xin
    refine ⟨⟨k, h1, h2, h3⟩, ?_, hy'.mov, hy'.goal, fun j hj => ?_, ?_⟩
    · have := hy'.pin
      rw [h2] at this ⊢
      simp only [Int.toNat_natCast] at this ⊢
      rw [e k h1]
      exact this
    · rw [e j hj]
      exact hy'.first1 j hj
    · have := hy'.first2
      rw [h2] at this ⊢
      simp only [Int.toNat_natCast] at this ⊢
      rw [e k h1]
      exact this
  obtain ⟨_, e2, e3⟩ := hy.one (fun k hk => (hP k hk).srt) hx'
  omega
/-- No move. -/
def Mv0 (on : Nat) (ss : List St) : Prop := ∀ k, k < 64 → on.testBit k = true → ∀ p, p < ss.length → (ss.getD p st0).core = (k : Int) → ∀ g, g < 64 → on.testBit g = true → (ss.getD p st0).cs.testBit g = true → cnt ss k ≤ cnt ss g + 1
theorem MvN.mv0 {on : Nat} {ss : List St} {P : Nat → List Int} (hP : ∀ k, k < 64 → Rk ss k (P k)) (h : MvN ss (ldL P) P on) : Mv0 on ss := fun k hk hb p hp hc g hg hgo hgc => by
  rw [ldL_S hP] at h
  refine Nat.le_of_not_lt fun hlt => h k hk hb (p : Int) (((hP k hk).mem _).2 ⟨p, hp, rfl, hc⟩) ⟨g, hg, hgo, ?_, ?_⟩
  · unfold csAt
    rw [Int.toNat_natCast]
    exact hgc
  · rw [ldS_at ss hg, ldS_at ss hk]
    omega
theorem Mv0.not {on : Nat} {ss : List St} {p t : Nat} (h : Mv0 on ss) (h1 : Mv1 on ss p t) : False := by
  obtain ⟨k, a, b, c, d⟩ := h1.frm
  have := h k a c p h1.pl b t h1.t64 h1.ton h1.tcs
  omega
/-! ### Squares -/
def sumN (f : Nat → Nat) : Nat → Nat
  | 0 => 0
  | n + 1 => sumN f n + f n
theorem sumN_eq {f g : Nat → Nat} : ∀ {n : Nat}, (∀ j, j < n → f j = g j) → sumN f n = sumN g n
  | 0, _ => rfl
  | n + 1, h => by
    unfold sumN
    rw [sumN_eq fun j hj => h j (by omega), h n (by omega)]
theorem sumN_one {f g : Nat → Nat} {a : Nat} : ∀ {n : Nat}, a < n → (∀ j, j < n → j ≠ a → f j = g j) → sumN f n + g a = sumN g n + f a
  | 0, h, _ => by omega
  | n + 1, h, he => by
    unfold sumN
    by_cases e : a = n
    · subst e
      have := sumN_eq (f := f) (g := g) (n := a) fun j hj => he j (by omega) (by omega)
      omega
    · have := sumN_one (f := f) (g := g) (n := n) (a := a) (by omega) fun j hj hja => he j (by omega) hja
      have := he n (by omega) (fun q => e q.symm)
      omega
theorem sumN_two {f g : Nat → Nat} {n a b : Nat} (ha : a < n) (hb : b < n) (hab : a ≠ b) (h : ∀ j, j < n → j ≠ a → j ≠ b → f j = g j) : sumN f n + g a + g b = sumN g n + f a + f b := by
  have h1 := sumN_one (f := f) (g := fun j => if j = b then f b else g j) (n := n) (a := a) ha fun j hj hja => by
    by_cases e : j = b
    · simp [e]
    · simp [e, h j hj hja e]
  have h2 := sumN_one (f := fun j => if j = b then f b else g j) (g := g) (n := n) (a := b) hb fun j hj hjb => by simp [hjb]
  simp only [if_neg hab] at h1
  simp only [if_pos] at h2
  omega
/-- The squares of the loads, together. -/
def sqs (ss : List St) : Nat := sumN (fun k => cnt ss k * cnt ss k) 64
theorem cnt_mv {on : Nat} {ss : List St} {p t k : Nat} (h : Mv1 on ss p t) (hk : k < 64) (hc : (ss.getD p st0).core = (k : Int)) (htk : t ≠ k) : cnt (mvS ss p (t : Int)) k + 1 = cnt ss k ∧ cnt (mvS ss p (t : Int)) t = cnt ss t + 1 ∧ ∀ j, j ≠ k → j ≠ t → cnt (mvS ss p (t : Int)) j = cnt ss j := by
  have hp := h.pl
  obtain ⟨P, x, hP, _⟩ := h.all
  have hR := hP k hk
  obtain ⟨i, hi, e⟩ := mem_rowf.1 ((hR.mem (p : Int)).2 ⟨p, hp, rfl, hc⟩)
  have hd := hR.del (t := t) hi e.symm hp htk
  refine ⟨?_, ?_, fun j hjk hjt => ?_⟩
  · rw [← hd.cnt, ← hR.cnt]
    exact delP_len hi
  · have hT := hP t h.t64
    -- whatever the place: the members count
    have hm : ∀ x, x ∈ plcs (mvS ss p (t : Int)) t (mvS ss p (t : Int)).length ↔ x = (p : Int) ∨ x ∈ plcs ss t ss.length := fun x => by
      rw [mem_plcs, mem_plcs, mvS_len]
      constructor
      · rintro ⟨j, g1, g2, g3⟩
        by_cases e : j = p
        · subst e; exact .inl g2
        · rw [mvS_ne e] at g3
          exact .inr ⟨j, g1, g2, g3⟩
      · rintro (e | ⟨j, g1, g2, g3⟩)
        · exact ⟨p, hp, e, by rw [mvS_at hp]⟩
        · refine ⟨j, g1, g2, ?_⟩
          by_cases e : j = p
          · subst e; rw [mvS_at hp]
          · rw [mvS_ne e]; exact g3
    have hnp : (p : Int) ∉ plcs ss t ss.length := fun hmem => by
      obtain ⟨j, _, g2, g3⟩ := mem_plcs.1 hmem
      have : j = p := by omega
      subst this
      rw [hc] at g3
      omega
    have hnd : ((p : Int) :: plcs ss t ss.length).Nodup := List.nodup_cons.2 ⟨hnp, plcs_nodup _ _ _⟩
    have a1 := nodup_le _ _ hnd fun x hx => (hm x).2 (List.mem_cons.1 hx)
    have a2 := nodup_le _ _ (plcs_nodup (mvS ss p (t : Int)) t _) fun x hx => List.mem_cons.2 ((hm x).1 hx)
    rw [List.length_cons] at a1 a2
    unfold cnt
    omega
  · have hm : ∀ x, x ∈ plcs (mvS ss p (t : Int)) j (mvS ss p (t : Int)).length ↔ x ∈ plcs ss j ss.length := fun x => by
      rw [mem_plcs, mem_plcs, mvS_len]
      constructor
      · rintro ⟨i, g1, g2, g3⟩
        by_cases e : i = p
        · subst e
          rw [mvS_at hp] at g3
          have g3 : (t : Int) = (j : Int) := g3
          omega
        · rw [mvS_ne e] at g3
          exact ⟨i, g1, g2, g3⟩
      · rintro ⟨i, g1, g2, g3⟩
        refine ⟨i, g1, g2, ?_⟩
        rw [mvS_ne (fun e => by subst e; omega)]
        exact g3
    exact Nat.le_antisymm (nodup_le _ _ (plcs_nodup _ _ _) fun x hx => (hm x).1 hx) (nodup_le _ _ (plcs_nodup _ _ _) fun x hx => (hm x).2 hx)
theorem sqs_mv {on : Nat} {ss : List St} {p t : Nat} (h : Mv1 on ss p t) : sqs (mvS ss p (t : Int)) + 2 ≤ sqs ss := by
  obtain ⟨k, hk, hc, _, hlt⟩ := h.frm
  have htk : t ≠ k := by rintro rfl; omega
  obtain ⟨h1, h2, h3⟩ := cnt_mv h hk hc htk
  have hs := sumN_two (f := fun j => cnt (mvS ss p (t : Int)) j * cnt (mvS ss p (t : Int)) j) (g := fun j => cnt ss j * cnt ss j) (n := 64) (a := k) (b := t) hk h.t64 (fun q => htk q.symm) fun j _ hj1 hj2 => by simp only [h3 j hj1 hj2]
  unfold sqs
  obtain ⟨a, ha⟩ : ∃ a, cnt (mvS ss p (t : Int)) k = a := ⟨_, rfl⟩
  obtain ⟨b, hb⟩ : ∃ b, cnt ss t = b := ⟨_, rfl⟩
  rw [ha] at h1 hs
  rw [hb] at h2 hs hlt
  rw [h2, ← h1] at hs
  rw [← h1] at hlt
  obtain ⟨d, rfl⟩ : ∃ d, a = b + 1 + d := ⟨a - (b + 1), by omega⟩
  have e1 : (b + 1 + d + 1) * (b + 1 + d + 1) = (b + 1 + d) * (b + 1 + d) + 2 * (b + 1 + d) + 1 := by
    rw [Nat.add_mul, Nat.mul_add]; omega
  have e2 : (b + 1) * (b + 1) = b * b + 2 * b + 1 := by
    rw [Nat.add_mul, Nat.mul_add]; omega
  omega
/-- All moves, one behind the other. -/
inductive Mvs (on : Nat) (ss : List St) : Nat → List St → Prop
  | none : Mvs on ss 0 ss
  | next {m : Nat} {s : List St} {p t : Nat} : Mvs on ss m s → Mv1 on s p t → Mvs on ss (m + 1) (mvS s p (t : Int))
theorem Mvs.len {on : Nat} {ss s : List St} {m : Nat} (h : Mvs on ss m s) : s.length = ss.length := by
  induction h with
  | none => rfl
  | next _ _ ih => rw [mvS_len]; exact ih
theorem Mvs.sq {on : Nat} {ss s : List St} {m : Nat} (h : Mvs on ss m s) : sqs s + 2 * m ≤ sqs ss := by
  induction h with
  | none => simp
  | next _ h1 ih =>
    have := sqs_mv h1
    omega
theorem Mvs.cs {on : Nat} {ss s : List St} {m : Nat} (h : Mvs on ss m s) (x : Int) : csAt s x = csAt ss x := by
  induction h with
  | none => rfl
  | next _ h1 ih => rw [csAt_mv h1.pl]; exact ih
theorem Mvs.front {on : Nat} {ss s : List St} {m : Nat} (h : Mvs on ss m s) : (m = 0 ∧ s = ss) ∨ ∃ p t m', Mv1 on ss p t ∧ m = m' + 1 ∧ Mvs on (mvS ss p (t : Int)) m' s := by
  induction h with
  | none => exact .inl ⟨rfl, rfl⟩
  | @next m s p t _ h1 ih =>
    rcases ih with ⟨rfl, rfl⟩ | ⟨p', t', m', g1, rfl, g3⟩
    · exact .inr ⟨p, t, 0, h1, rfl, .none⟩
    · exact .inr ⟨p', t', m' + 1, g1, rfl, .next g3 h1⟩
/-- There is one way, and one end. -/
theorem Mvs.one {on : Nat} : ∀ {m : Nat} {ss s s' : List St} {m' : Nat}, Mvs on ss m s → Mv0 on s → Mvs on ss m' s' → Mv0 on s' → m = m' ∧ s = s'
  | 0, ss, s, s', m', h, h0, h', h0' => by
    rcases h.front with ⟨_, e⟩ | ⟨_, _, _, _, e, _⟩
    · subst e
      rcases h'.front with ⟨e1, e2⟩ | ⟨p, t, _, g, _, _⟩
      · exact ⟨e1.symm, e2.symm⟩
      · exact (h0.not g).elim
    · omega
  | m + 1, ss, s, s', m', h, h0, h', h0' => by
    rcases h.front with ⟨e, _⟩ | ⟨p, t, m1, g1, e, g2⟩
    · omega
    · rcases h'.front with ⟨e1, e2⟩ | ⟨p', t', m2, g1', e', g2'⟩
      · subst e2
        exact (h0'.not g1).elim
      · obtain ⟨rfl, rfl⟩ := g1.one g1'
        obtain rfl : m1 = m := by omega
        obtain ⟨e1, e2⟩ := g2.one h0 g2' h0'
        exact ⟨by omega, e2⟩
end Go.Proofs.Ytoeeighfjoplhaa

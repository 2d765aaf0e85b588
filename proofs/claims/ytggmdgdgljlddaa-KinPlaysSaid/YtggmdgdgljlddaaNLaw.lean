/-
  What comes in: slices of things that are done (three ints each); contracts of the laws' in, Same, do.
-/
import Derived.Test.YtggmdgdgljlddaaNDoB
import Derived.Deep.Slices
import Derived.Deep.Grids
import Derived.Lib.SmallJoins
import Derived.Laws.BytesArg
namespace Go.Proofs.Ytggmdgdgljlddaa
open Go.ChangeShapes Go.WideShapes Go.RowKit Go.Joins Go.Deep

/-- One thing that is done. -/
abbrev Kop := Int × Int × Int
def kop0 : Kop := (0, 0, 0)
def kc (o : Kop) : Nat → Value
  | 0 => .int .i64 o.1
  | 1 => .int .i64 o.2.1
  | _ => .int .i64 o.2.2
structure KOk (o : Kop) : Prop where
  d : I64 o.1
  i : I64 o.2.1
  p : I64 o.2.2
structure Kops (w : World) (P : Nat → Prop) (v : Value) (os : List Kop) : Prop where
  rw : Rw 3 kc kop0 w P v os
  ok : ∀ o ∈ os, KOk o
theorem take_snocL {α : Type} {d : α} (xs : List α) (k : Nat) (h : k < xs.length) : xs.take (k + 1) = xs.take k ++ [xs.getD k d] := by
  rw [List.take_succ_eq_append_getElem h]
  simp [List.getD, h]
theorem take_snoc (xs : List Int) (k : Nat) (h : k < xs.length) : xs.take (k + 1) = xs.take k ++ [xs.getD k 0] := take_snocL xs k h

theorem sameI_any {S T : Nat → Prop} (v u : Value) (xs ys : List Int) (w : World) (h : Sl (Value.int .i64) 0 w S v xs) (h' : Sl (Value.int .i64) 0 w T u ys) :
    Calls Try.prog 10 #[v, u] w fun e w' => e = .returned (.bool (decide (xs = ys))) ∧ ∃ n, w' = w.drewN n := by
  obtain ⟨A, c, rfl, hc, hm, hr⟩ := h
  obtain ⟨A', c', rfl, hc', hm', hr'⟩ := h'
  have HR := hid hr
  have HR' := hid hr'
  unfold maxLen at hm hm'
  clear hr hr'
  by_cases hne : xs.length = ys.length
  · have he : (((xs.length : Nat) : Int) == ((ys.length : Nat) : Int)) = true := by simp [hne]
    have he2 : (((xs.length : Nat) : Int) != ((ys.length : Nat) : Int)) = false := by simp [hne]
    have HN := hid hne
    clear hne
    go_enter Try.func10, Try.ntmps10
    go_wp2
    clear he he2
    go_loopw [5] (fun i w' => ∃ k n : Nat, k ≤ xs.length ∧ i = .int .i64 k ∧ w' = w.drewN n ∧ xs.take k = ys.take k) (fun i _ => xs.length - (intOf i).toNat)
    case atStart => exact ⟨0, 0, Nat.zero_le _, rfl, rfl, by simp⟩
    case round =>
      obtain ⟨k, n, hk, rfl, rfl, ht⟩ := hrel
      have HT := hid ht
      clear ht
      by_cases hlt : k < xs.length
      · have hlt2 : k < ys.length := by have := HN.out; omega
        obtain ⟨b, o, rfl, hb, hS, hcell⟩ := HR.out (by omega)
        obtain ⟨b', o', rfl, hb', hS', hcell'⟩ := HR'.out (by omega)
        have hc1 := hcell k hlt
        have hc2 := hcell' k hlt2
        clear hcell hcell'
        obtain ⟨x, hx⟩ : ∃ x, xs.getD k 0 = x := ⟨_, rfl⟩
        obtain ⟨y, hy⟩ : ∃ y, ys.getD k 0 = y := ⟨_, rfl⟩
        rw [hx] at hc1
        rw [hy] at hc2
        have HX := hid hx
        have HY := hid hy
        have hki : (k : Int) < (xs.length : Int) := by omega
        have hki2 : (k : Int) < (ys.length : Int) := by omega
        clear hx hy HR HR'
        by_cases heq : x = y
        · subst heq
          have hb1 : (x != x) = false := by simp
          go_wp2
          go_quiet (fail)
          go_wp2
          go_roundw
          case rel =>
            refine ⟨k + 1, _, by omega, by go_num, rfl, ?_⟩
            rw [take_snoc xs k hlt, take_snoc ys k hlt2, HX.out, HY.out, HT.out]
          case measure => simp [intOf]; omega
        · have hb1 : (x != y) = true := by simp [heq]
          have hb2 : (x == y) = false := by simp [heq]
          go_wp2
          go_quiet (fail)
          go_wp2
          go_ret
          have hd : ¬ xs = ys := fun e => heq (by rw [← HX.out, ← HY.out, e])
          exact ⟨by simp [hd], _, by rw [World.drewN_drewN]⟩
      · go_wp2
        go_ret
        have hd : xs = ys := by
          have := HT.out
          rwa [List.take_of_length_le (by omega), List.take_of_length_le (by have := HN.out; omega)] at this
        exact ⟨by simp [hd], _, rfl⟩
  · have he2 : (((xs.length : Nat) : Int) != ((ys.length : Nat) : Int)) = true := by rw [bne_iff_ne]; omega
    have hd : ¬ xs = ys := fun e => hne (by rw [e])
    have HD := hid hd
    clear hd hne
    go_enter Try.func10, Try.ntmps10
    go_wp2
    go_ret
    exact ⟨by simp [HD.out], 0, rfl⟩

section
variable {H : Type} {enc : TypeId × Value → H} {P : Program} {w : World} {base : Nat} {spare : Nat → Bool} {held : Bool} {t e : TypeId}
/-- A slice of structs that came in, each of n cells. -/
theorem open_rows {α : Type} {n : Nat} {f : α → Nat → Value} {d : α} {fuel : Nat} {A : Option Addr} {len cap : Nat} {x : DataW H × List MemPlace} (ht : P.underlying t = some (.slice e)) (hn : 0 < n) (hC : P.cellsOf e = n)
    (hel : ∀ (fuel : Nat) (cs : List Value) (y : DataW H × List MemPlace), DataW.trod enc P w base spare held fuel e cs = some y → ∃ q : α, ∀ j, j < n → cs[j]? = some (f q j))
    (h : DataW.trod enc P w base spare held fuel t [.slice A len cap] = some x) : ∃ xs : List α, Rw n f d w Anyb (.slice A len cap) xs := by
  rcases open_slice ht h with ⟨hcs, _⟩ | ⟨a, l, c, m, k, D, Pl, hcs, _, hl, hm, hmm, _, hi⟩
  · simp at hcs
    obtain ⟨rfl, rfl, rfl⟩ := hcs
    exact ⟨[], Rw.nil _ _ _ w Anyb⟩
  · simp at hcs
    obtain ⟨rfl, rfl, rfl⟩ := hcs
    have hlm : len ≤ m := by rw [hmm]; split <;> omega
    have hx : ∀ i : Nat, ∃ q : α, i < len → ∀ j, j < n → w.cell? (a.add (i * n + j)) = some (f q j) := by
      intro i
      by_cases hlt : i < len
      · obtain ⟨cs', hc, ht'⟩ := hi i (by omega)
        obtain ⟨q, hq⟩ := hel _ _ _ ht'
        rw [hC] at hc
        obtain ⟨_, _, hat⟩ := World.cells?_some hc
        refine ⟨q, fun _ j hj => ?_⟩
        have := hat j hj
        rw [Go.Deep.add_add] at this
        rw [this]
        have h1 := hq j hj
        simp [h1]
      · exact ⟨d, fun h => absurd h hlt⟩
    refine ⟨(List.range len).map fun i => (hx i).choose, ⟨some a, cap, by simp, by simpa using hl, hm, fun h0 => ?_⟩⟩
    have hpos : 0 < len := by simpa using h0
    obtain ⟨b, o, spot⟩ := a
    have hc0 := (hx 0).choose_spec hpos 0 hn
    have hsp : spot = none := by simpa [Addr.add] using World.cell?_spot hc0
    subst hsp
    refine ⟨b, o, rfl, by simpa [Addr.add] using World.block_lt_of_cell? w _ hc0, trivial, fun j i hj hi3 => ?_⟩
    have hj' : j < len := by simpa using hj
    have ha : (⟨b, o, none⟩ : Addr).add (j * n + i) = ⟨b, o + (j * n + i), none⟩ := by unfold Addr.add; split <;> simp_all
    rw [← ha, (hx j).choose_spec hj' i hi3]
    simp [List.getD, hj']


theorem trod_i64 {fuel : Nat} {c : Value} {y : DataW H × List MemPlace} (ht : P.underlying t = some (.int .i64)) (h : DataW.trod enc P w base spare held fuel t [c] = some y) : ∃ x : Int, c = .int .i64 x ∧ I64 x := by
  obtain ⟨x, e0, _, wx⟩ := DataW.trod_int ht h
  simp at e0
  exact ⟨x, e0, bounds_i64 wx⟩
theorem cells_kop {f0 f1 f2 : Field} {fuel : Nat} {cs : List Value} {x : DataW H × List MemPlace} (hs : P.underlying e = some (.struct #[f0, f1, f2])) (hone : oneCellFields P #[f0, f1, f2] = true) (hC : P.cellsOf e = 3)
    (h0 : P.underlying f0.type = some (.int .i64)) (h1 : P.underlying f1.type = some (.int .i64)) (h2 : P.underlying f2.type = some (.int .i64))
    (h : DataW.trod enc P w base spare held fuel e cs = some x) : ∃ o : Kop, cs = [kc o 0, kc o 1, kc o 2] ∧ KOk o := by
  obtain ⟨ys, n, _, _, hl, hyl, hf⟩ := DataW.trod_struct hs h
  rw [hC] at hl
  match cs, hl with
  | [a, b, c], _ =>
    match ys, hyl with
    | [y0, y1, y2], _ =>
      obtain ⟨o0, k0⟩ := hone_of hone 0 f0 rfl
      obtain ⟨o1, k1⟩ := hone_of hone 1 f1 rfl
      obtain ⟨o2, k2⟩ := hone_of hone 2 f2 rfl
      have g0 := hf 0 f0 rfl
      have g1 := hf 1 f1 rfl
      have g2 := hf 2 f2 rfl
      rw [o0, k0] at g0
      rw [o1, k1] at g1
      rw [o2, k2] at g2
      obtain ⟨x0, rfl, i0⟩ := trod_i64 h0 (by simpa using g0)
      obtain ⟨x1, rfl, i1⟩ := trod_i64 h1 (by simpa using g1)
      obtain ⟨x2, rfl, i2⟩ := trod_i64 h2 (by simpa using g2)
      exact ⟨(x0, x1, x2), rfl, i0, i1, i2⟩
end

section
variable {H : Type} {enc : TypeId × Value → H} {w : World} {base : Nat} {held : Bool}
theorem kop0_ok : KOk kop0 := ⟨by unfold I64; decide, by unfold I64; decide, by unfold I64; decide⟩
set_option maxRecDepth 100000 in
/-- A slice of things that are done. -/
theorem open_kops {fuel : Nat} {A : Option Addr} {len cap : Nat} {x : DataW H × List MemPlace} (h : DataW.trod enc Try.prog w base (fun _ => true) held fuel 22 [.slice A len cap] = some x) : ∃ xs : List Kop, Kops w Anyb (.slice A len cap) xs := by
  obtain ⟨xs, hx⟩ := open_rows (n := 3) (α := { o : Kop // KOk o }) (f := fun q j => kc q.1 j) (d := ⟨kop0, kop0_ok⟩) Try.underlying22 (by omega) (by kernel_rfl) (fun fuel cs y hy => by
    obtain ⟨q, rfl, hi⟩ := cells_kop (P := Try.prog) Try.underlying31 (by kernel_rfl) (by kernel_rfl) Try.underlying3 Try.underlying3 Try.underlying3 hy
    refine ⟨⟨q, hi⟩, fun j hj => ?_⟩
    match j, hj with
    | 0, _ => rfl
    | 1, _ => rfl
    | 2, _ => rfl) h
  refine ⟨xs.map Subtype.val, ⟨?_, fun o ho => ?_⟩⟩
  · obtain ⟨A', c, he, hc, hm, hr⟩ := hx
    refine ⟨A', c, by rw [List.length_map]; exact he, by rw [List.length_map]; exact hc, hm, fun h0 => ?_⟩
    rw [List.length_map] at h0
    obtain ⟨b, o, h1, h2, h3, h4⟩ := hr h0
    refine ⟨b, o, h1, h2, h3, fun j i hj hi => ?_⟩
    rw [List.length_map] at hj
    rw [h4 j i hj hi]
    simp [List.getD, hj]
  · obtain ⟨q, _, rfl⟩ := List.mem_map.1 ho
    exact q.2
end
section
variable {w w' : World} {P S : Nat → Prop} {v : Value} {os : List Kop} {T : Tre} {D : Int → Nat} {g m cnt : Nat} {xs : List Int}
theorem Kops.kp0 (h : Kops w P v os) (k : Kp No w w') : Kops w' P v os := ⟨h.rw.kp0 k, h.ok⟩
theorem Kops.at' {A : Option Addr} {n c k : Nat} (h : Kops w P (.slice A n c) os) (hk : k < os.length) : ∃ b o, A = some ⟨b, o, none⟩ ∧ KOk (os.getD k kop0) ∧ (∀ j, j < 3 → w.cell? ⟨b, o + k * 3 + j, none⟩ = some (kc (os.getD k kop0) j)) := by
  obtain ⟨A', c', he, h1, h2, h3⟩ := h.rw
  injection he with e1 e2 e3
  subst e1
  obtain ⟨b, o, e, g1, g2, g3⟩ := h3 (by omega)
  exact ⟨b, o, e, h.ok _ (by simp [List.getD, hk]), fun j hj => by rw [Nat.add_assoc]; exact g3 k j hk hj⟩
theorem Rw.sl (h : Rw 1 zf 0 w P v xs) : Sl (Value.int .i64) 0 w P v xs := by
  obtain ⟨A, c, e, h1, h2, h3⟩ := h
  refine ⟨A, c, e, h1, h2, fun h0 => ?_⟩
  obtain ⟨b, o, e2, g1, g2, g3⟩ := h3 h0
  exact ⟨b, o, e2, g1, g2, fun j hj => by have := g3 j 0 hj (by omega); rw [Nat.mul_one, Nat.add_zero] at this; exact this⟩
theorem DoPost.of {w0 : World} {cn : Nat} {code : Int} {T' : Tre} {e : Ending} (k : Kp No w w0) (h : DoPost S g m w0 cn code T' e w') : DoPost S g m w cn code T' e w' :=
  ⟨h.1, h.2.1, (k.mono (T := S) fun _ _ f => f.elim).trans h.2.2⟩
set_option maxHeartbeats 1000000 in
set_option maxRecDepth 100000 in
theorem do_any (W : WT T D) (h : Kn w S g m T cnt) (hc : Cn T cnt) (hS : ∀ i, w.heap.size ≤ i → S i) {o : Kop} (ho : KOk o) (hcl : cnt ≤ 1000) :
    Calls Try.prog 6 #[.pointer (some ⟨g, 0, none⟩), .agg #[.int .i64 o.1, .int .i64 o.2.1, .int .i64 o.2.2]] w (DoPost S g m w cnt (doE T o) (doT T o)) := by
  have k0 := (Kp.refl No w).alloc (.cells #[.int .i64 o.1, .int .i64 o.2.1, .int .i64 o.2.2] 31)
  have H0 := hid (h.kp0 k0)
  have K0 := hid k0
  have HW := hid W
  have HC := hid hc
  have HS := hid (fun i (hi : (w.alloc (.cells #[.int .i64 o.1, .int .i64 o.2.1, .int .i64 o.2.2] 31)).heap.size ≤ i) => hS i (Nat.le_trans k0.size hi))
  obtain ⟨d, id, p⟩ := o
  have hii := ho.i
  have hpp := ho.p
  simp only at hii hpp H0 K0 HS ⊢
  clear W h hc hS k0 ho
  by_cases d1 : d = 1
  · subst d1
    have e1 : doE T (1, id, p) = addE T id p := rfl
    have e2 : doT T (1, id, p) = if addE T id p = 0 then hangT T id p [] else T := rfl
    rw [e1, e2]
    have HA := hid (add_any HW.out H0.out HC.out HS.out hii hpp hcl)
    obtain ⟨T', hT'⟩ : ∃ T', (if addE T id p = 0 then hangT T id p [] else T) = T' := ⟨_, rfl⟩
    obtain ⟨cd, hcd⟩ : ∃ cd, addE T id p = cd := ⟨_, rfl⟩
    rw [hT', hcd] at HA
    rw [hT', hcd]
    clear e1 e2 hT' hcd
    go_enter Try.func6, Try.ntmps6
    go_wp2_with (first
      | (go_at_call 23
         refine HA.out.mono ?_
         intro e w2 h2
         have H2 := hid (h2.of K0.out)
         obtain ⟨rfl, _, _⟩ := h2))
    go_ret
    exact H2.out
  · have n1 : (d == 1) = false := by simp [d1]
    by_cases d2 : d = 2
    · subst d2
      have e1 : doE T (2, id, p) = dropE T id := rfl
      have e2 : doT T (2, id, p) = if dropE T id = 0 then cutT T id else T := rfl
      rw [e1, e2]
      have HA := hid (drop_any HW.out H0.out HC.out hii hcl)
      obtain ⟨T', hT'⟩ : ∃ T', (if dropE T id = 0 then cutT T id else T) = T' := ⟨_, rfl⟩
      obtain ⟨cd, hcd⟩ : ∃ cd, dropE T id = cd := ⟨_, rfl⟩
      rw [hT', hcd] at HA
      rw [hT', hcd]
      clear e1 e2 hT' hcd
      go_enter Try.func6, Try.ntmps6
      go_wp2_with (first
        | (go_at_call 25
           refine HA.out.mono ?_
           intro e w2 h2
           have H2 := hid (h2.of K0.out)
           obtain ⟨rfl, _, _⟩ := h2))
      go_ret
      exact H2.out
    · have n2 : (d == 2) = false := by simp [d2]
      by_cases d3 : d = 3
      · subst d3
        have e1 : doE T (3, id, p) = movE T id p := rfl
        have e2 : doT T (3, id, p) = if movE T id p = 0 then movT T id p else T := rfl
        rw [e1, e2]
        have HA := hid (move_any HW.out H0.out HC.out HS.out hii hpp hcl)
        obtain ⟨T', hT'⟩ : ∃ T', (if movE T id p = 0 then movT T id p else T) = T' := ⟨_, rfl⟩
        obtain ⟨cd, hcd⟩ : ∃ cd, movE T id p = cd := ⟨_, rfl⟩
        rw [hT', hcd] at HA
        rw [hT', hcd]
        clear e1 e2 hT' hcd
        go_enter Try.func6, Try.ntmps6
        go_wp2_with (first
          | (go_at_call 24
             refine HA.out.mono ?_
             intro e w2 h2
             have H2 := hid (h2.of K0.out)
             obtain ⟨rfl, _, _⟩ := h2))
        go_ret
        exact H2.out
      · have n3 : (d == 3) = false := by simp [d3]
        have e1 : doE T (d, id, p) = 0 := by unfold doE; rw [if_neg d1, if_neg d2, if_neg d3]
        have e2 : doT T (d, id, p) = T := by unfold doT; simp [d1, d2, d3]
        rw [e1, e2]
        clear e1 e2 d1 d2 d3
        go_enter Try.func6, Try.ntmps6
        go_wp2
        go_ret
        exact (DoPost.no H0.out HC.out (Kp.refl No _) 0).of K0.out
end
end Go.Proofs.Ytggmdgdgljlddaa

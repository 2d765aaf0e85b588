/-
  Contract of isLost.
-/
import Derived.Test.YtjmaingpiieioaaGreatZOrder
import Derived.Laws.EntriesVeiled
namespace Go.Proofs.YtjmaingpiieioaaGreat
open Go.RowKit Go.Shelf

instance (x : Int) : Decidable (I64 x) := by unfold I64; infer_instance
theorem below_of_kp {w w' : World} {B : Nat} (h : Kp No w w') (hB : B ≤ w.heap.size) : Below B w w' := ⟨h.os, h.tape, h.output, h.size, fun k hk => h.block k (by omega) fun e => e⟩
/-- .. asked only of those that are in the list. -/
theorem anyG_on {w : World} {P : Nat → Prop} {v : Value} {xs : List GS} (I : GS → Prop) [DecidablePred I] (hI : ∀ x ∈ xs, I x) (h00 : I gs0) (h : Rw 6 gc gs0 w P v xs) (p : GS → Bool) (g : Nat) (lb : Array Value) (eg : ∀ args w, (callFunc g args).run Tryz.prog w = .ok (.enter g args) w)
    (hp : ∀ (W : World) (x : GS), I x → Kp No w W → Calls Tryz.prog g (#[.agg (ge x).toArray] ++ lb) W fun e w' => e = .returned (.bool (p x)) ∧ Kp No W w') : Calls Tryz.prog 27 #[v, .func (.func g) #[] lb] w fun e w' => e = .returned (.bool (xs.any p)) ∧ Kp No w w' := by
  have h0 := h
  obtain ⟨A, c, rfl, hc, hm, hx⟩ := h
  unfold maxLen at hm
  by_cases h1 : xs = []
  · subst h1
    refine (any0G A c _ w).mono ?_
    rintro e w' ⟨rfl, rfl⟩
    exact ⟨rfl, Kp.refl _ _⟩
  · obtain ⟨b, o, rfl, hb, _, _⟩ := hx (List.length_pos_iff.2 h1)
    have hfix : ∀ x : GS, I (if I x then x else gs0) := fun x => by
      by_cases hx : I x
      · rw [if_pos hx]
        exact hx
      · rw [if_neg hx]
        exact h00
    have := AnyQ.slices_ContainsFunc Tryz.anyG 6 Tryz.isAgg51 Tryz.sizeOf51 (fun x => ge (if I x then x else gs0)) (fun x => ge_len _) (fun x => p (if I x then x else gs0)) g lb eg b o xs.length c xs w
      (fun W x hB => (hp W _ (hfix x) (kp_of_below hB)).mono fun e w' h => ⟨h.1, below_of_kp ((kp_of_below hB).trans h.2) (Nat.le_refl _)⟩) (Nat.le_refl _) (by omega) hb (fun j hj i u hi => by
        have hm : xs[j]! ∈ xs := by rw [getElem!_pos xs j hj]; exact List.getElem_mem hj
        rw [if_pos (hI _ hm)] at hi
        exact h0.cellsG j hj i u hi)
    refine Calls.mono this ?_
    rintro e w' ⟨rfl, hw⟩
    rw [List.take_length]
    refine ⟨?_, kp_of_below hw⟩
    have : (xs.any fun x => p (if I x then x else gs0)) = xs.any p := by
      rw [Bool.eq_iff_iff, List.any_eq_true, List.any_eq_true]
      exact ⟨fun ⟨x, hx, hp⟩ => ⟨x, hx, by rwa [if_pos (hI x hx)] at hp⟩, fun ⟨x, hx, hp⟩ => ⟨x, hx, by rwa [if_pos (hI x hx)]⟩⟩
    rw [this]
/-- .. asked only of those that are in the list. -/
theorem anyT_on {w : World} {P : Nat → Prop} {v : Value} {xs : List TS} (I : TS → Prop) [DecidablePred I] (hI : ∀ x ∈ xs, I x) (h00 : I ts0) (h : Rw 8 tc ts0 w P v xs) (p : TS → Bool) (g : Nat) (lb : Array Value) (eg : ∀ args w, (callFunc g args).run Tryz.prog w = .ok (.enter g args) w)
    (hp : ∀ (W : World) (x : TS), I x → Kp No w W → Calls Tryz.prog g (#[.agg (te x).toArray] ++ lb) W fun e w' => e = .returned (.bool (p x)) ∧ Kp No W w') : Calls Tryz.prog 29 #[v, .func (.func g) #[] lb] w fun e w' => e = .returned (.bool (xs.any p)) ∧ Kp No w w' := by
  have h0 := h
  obtain ⟨A, c, rfl, hc, hm, hx⟩ := h
  unfold maxLen at hm
  by_cases h1 : xs = []
  · subst h1
    refine (any0T A c _ w).mono ?_
    rintro e w' ⟨rfl, rfl⟩
    exact ⟨rfl, Kp.refl _ _⟩
  · obtain ⟨b, o, rfl, hb, _, _⟩ := hx (List.length_pos_iff.2 h1)
    have hfix : ∀ x : TS, I (if I x then x else ts0) := fun x => by
      by_cases hx : I x
      · rw [if_pos hx]
        exact hx
      · rw [if_neg hx]
        exact h00
    have := AnyQ.slices_ContainsFunc Tryz.anyT 8 Tryz.isAgg46 Tryz.sizeOf46 (fun x => te (if I x then x else ts0)) (fun x => te_len _) (fun x => p (if I x then x else ts0)) g lb eg b o xs.length c xs w
      (fun W x hB => (hp W _ (hfix x) (kp_of_below hB)).mono fun e w' h => ⟨h.1, below_of_kp ((kp_of_below hB).trans h.2) (Nat.le_refl _)⟩) (Nat.le_refl _) (by omega) hb (fun j hj i u hi => by
        have hm : xs[j]! ∈ xs := by rw [getElem!_pos xs j hj]; exact List.getElem_mem hj
        rw [if_pos (hI _ hm)] at hi
        exact h0.cellsT j hj i u hi)
    refine Calls.mono this ?_
    rintro e w' ⟨rfl, hw⟩
    rw [List.take_length]
    refine ⟨?_, kp_of_below hw⟩
    have : (xs.any fun x => p (if I x then x else ts0)) = xs.any p := by
      rw [Bool.eq_iff_iff, List.any_eq_true, List.any_eq_true]
      exact ⟨fun ⟨x, hx, hp⟩ => ⟨x, hx, by rwa [if_pos (hI x hx)] at hp⟩, fun ⟨x, hx, hp⟩ => ⟨x, hx, by rwa [if_pos (hI x hx)]⟩⟩
    rw [this]
def ev0 (_ : Unit) : Value := .agg #[]
def enc0 (_ : Unit) : DataW Unit := .agg []
theorem hK : KM Tryz.prog 85 3 86 ev0 enc0 () where
  und := by kernel_rfl
  key := by kernel_rfl
  zero := fun w => by kernel_rfl
  inj := fun a b h => rfl
  evj := fun a b h => rfl
/-- A map of those that are here. -/
def Hr (w : World) (m : Nat) (l : List Int) : Prop := ∃ f cnt, Mk Tryz.prog 3 ev0 enc0 w m f cnt ∧ (∀ x, (f x).isSome = decide (x ∈ l)) ∧ cnt ≤ l.length
section
variable {w w' : World} {S : Nat → Prop} {m : Nat} {l : List Int} {x : Int}
theorem Hr.kp (h : Hr w m l) (k : Kp S w w') (hm : ¬ S m) : Hr w' m l := by
  obtain ⟨f, cnt, h1, h2⟩ := h
  exact ⟨f, cnt, h1.kp k hm, h2⟩
theorem Hr.kp0 (h : Hr w m l) (k : Kp No w w') : Hr w' m l := h.kp k fun e => e
theorem Hr.lt (h : Hr w m l) : m < w.heap.size := by
  obtain ⟨f, cnt, h1, h2⟩ := h
  exact h1.lt
theorem Hr.new (w : World) : Hr (w.alloc (.map #[] 0)) w.heap.size [] := ⟨_, 0, Mk.new w, fun x => by simp, Nat.le_refl _⟩
theorem Hr.look (h : Hr w m l) (hx : I64 x) : (Instr.lookup 85 (.map (some m)) (.int .i64 x) true).run Tryz.prog w = .ok (.tuple #[.agg #[], .bool (decide (x ∈ l))]) w := by
  obtain ⟨f, cnt, h1, h2, _⟩ := h
  rw [← h2]
  cases e : f x with
  | some a => exact Mk.look_some hK h1 hx e true
  | none => exact Mk.look_none hK h1 hx e true
theorem Hr.put (h : Hr w m l) (hx : I64 x) (hl : l.length < maxLen) : ∃ w', (Instr.mapUpdate 85 (.map (some m)) (.int .i64 x) (.agg #[])).run Tryz.prog w = .ok () w' ∧ Hr w' m (l ++ [x]) ∧ Kp (Only m) w w' := by
  obtain ⟨f, cnt, h1, h2, h3⟩ := h
  obtain ⟨w', hr, g1, g2⟩ := h1.put hK () hx (by omega)
  refine ⟨w', hr, ⟨_, _, g1, fun y => ?_, ?_⟩, g2⟩
  · by_cases e : y = x
    · subst e
      simp
    · simp [e, h2]
  · rw [List.length_append, List.length_singleton]
    split <;> omega
set_option maxRecDepth 100000 in
theorem lacks_any (h : Hr w m l) (hx : I64 x) {hb : Nat} (hc : w.cell? ⟨hb, 0, none⟩ = some (.map (some m))) {b : Bool} (he : decide (x ∈ l) = b) :
    Calls Tryz.prog 56 #[.int .i64 x, .pointer (some ⟨hb, 0, none⟩)] w fun e w' => e = .returned (.bool (!b)) ∧ Kp No w w' := by
  have hlk := h.look hx
  rw [he] at hlk
  have K1 := hid ((Kp.refl No w).alloc (.cells #[] 86))
  clear h he
  cases b
  all_goals (
    go_enter Tryz.func56, Tryz.ntmps56
    go_wp2
    go_ret
    exact ⟨rfl, K1.out⟩)
set_option maxRecDepth 100000 in
theorem lostG_any (g : GS) (h : Hr w m l) (hx : I64 g.par) {hb lb : Nat} (hc : w.cell? ⟨hb, 0, none⟩ = some (.map (some m))) (hlb : w.cell? ⟨lb, 0, none⟩ = some (.func (.func 56) #[] #[.pointer (some ⟨hb, 0, none⟩)])) :
    Calls Tryz.prog 57 #[.agg (ge g).toArray, .pointer (some ⟨lb, 0, none⟩)] w fun e w' => e = .returned (.bool (g.par != 0 && !decide (g.par ∈ l))) ∧ Kp No w w' := by
  obtain ⟨id, par, wt, pd, qt, us⟩ := g
  unfold ge
  simp only at hx ⊢
  have k1 := (Kp.refl No w).alloc (.cells #[.int .i64 id, .int .i64 par, .int .i64 wt, .int .i64 pd, .int .i64 qt, .int .i64 us] 51)
  have h1 := h.kp0 k1
  obtain ⟨b, hb1⟩ : ∃ b, decide (par ∈ l) = b := ⟨_, rfl⟩
  rw [hb1]
  have hbl : hb < w.heap.size := World.block_lt_of_cell? w _ hc
  have hll : lb < w.heap.size := World.block_lt_of_cell? w _ hlb
  have c1 := (k1.cell (p := ⟨hb, 0, none⟩) hbl fun e => e).trans hc
  have c2 := (k1.cell (p := ⟨lb, 0, none⟩) hll fun e => e).trans hlb
  have HA := hid (lacks_any h1 hx c1 hb1)
  have K1 := hid k1
  clear k1 h1 hb1 h hx hc
  by_cases hp : par = 0
  · subst hp
    go_enter Tryz.func57, Tryz.ntmps57
    go_wp2_with fail
    go_ret
    exact ⟨by simp, K1.out⟩
  · have hp2 : (par != 0) = true := by simpa using hp
    go_enter Tryz.func57, Tryz.ntmps57
    go_wp2_with (first
      | (go_at_call 56
         refine HA.out.mono ?_
         rintro e w2 ⟨rfl, k2⟩
         have K2 := hid (K1.out.trans k2)
         clear k2))
    go_ret
    exact ⟨by simp [hp], K2.out⟩
set_option maxRecDepth 100000 in
theorem lostT_any (t : TS) (h : Hr w m l) (hx : I64 t.gr) {hb lb : Nat} (hc : w.cell? ⟨hb, 0, none⟩ = some (.map (some m))) (hlb : w.cell? ⟨lb, 0, none⟩ = some (.func (.func 56) #[] #[.pointer (some ⟨hb, 0, none⟩)])) :
    Calls Tryz.prog 58 #[.agg (te t).toArray, .pointer (some ⟨lb, 0, none⟩)] w fun e w' => e = .returned (.bool (!decide (t.gr ∈ l))) ∧ Kp No w w' := by
  obtain ⟨id, gr, wt, co, sl, ra, lv, lr⟩ := t
  unfold te
  simp only at hx ⊢
  have k1 := (Kp.refl No w).alloc (.cells #[.int .i64 id, .int .i64 gr, .int .i64 wt, .int .u64 co, .bool sl, .int .i64 ra, .int .i64 lv, .int .i64 lr] 46)
  have h1 := h.kp0 k1
  obtain ⟨b, hb1⟩ : ∃ b, decide (gr ∈ l) = b := ⟨_, rfl⟩
  rw [hb1]
  have hbl : hb < w.heap.size := World.block_lt_of_cell? w _ hc
  have hll : lb < w.heap.size := World.block_lt_of_cell? w _ hlb
  have c1 := (k1.cell (p := ⟨hb, 0, none⟩) hbl fun e => e).trans hc
  have c2 := (k1.cell (p := ⟨lb, 0, none⟩) hll fun e => e).trans hlb
  have HA := hid (lacks_any h1 hx c1 hb1)
  have K1 := hid k1
  clear k1 h1 hb1 h hx hc
  go_enter Tryz.func58, Tryz.ntmps58
  go_wp2_with (first
    | (go_at_call 56
       refine HA.out.mono ?_
       rintro e w2 ⟨rfl, k2⟩
       have K2 := hid (K1.out.trans k2)
       clear k2))
  go_ret
  exact ⟨rfl, K2.out⟩
end
theorem Rw.old {α : Type} {n : Nat} {f : α → Nat → Value} {d : α} {w : World} {P : Nat → Prop} {v : Value} {xs : List α} (h : Rw n f d w P v xs) : Rw n f d w (fun i => i < w.heap.size) v xs := by
  obtain ⟨A, c, rfl, h1, h2, h3⟩ := h
  refine ⟨A, c, rfl, h1, h2, fun h0 => ?_⟩
  obtain ⟨b, o, rfl, g1, _, g3⟩ := h3 h0
  exact ⟨b, o, rfl, g1, g1, g3⟩
def lostB (g0 : GS) (tl : List GS) (ts : List TS) : Bool := g0.par != 0 || (g0 :: tl).any (fun g => g.par != 0 && !decide (g.par ∈ (g0 :: tl).map (·.id))) || ts.any fun t => !decide (t.gr ∈ (g0 :: tl).map (·.id))
theorem take1_map (gs : List GS) {k : Nat} (h : k < gs.length) : (gs.take (k + 1)).map (·.id) = (gs.take k).map (·.id) ++ [(gs.getD k gs0).id] := by rw [take_s gs h gs0, List.map_append]; rfl
set_option maxRecDepth 100000 in
set_option maxHeartbeats 2000000 in
theorem lost_any {w : World} {P : Nat → Prop} {v : Value} {g0 : GS} {gt : List GS} {ts : List TS} (h : Sn w P v (g0 :: gt) ts) (hl : (g0 :: gt).length ≤ 1000000) (hp : ∀ g ∈ g0 :: gt, I64 g.id ∧ I64 g.par) (hpt : ∀ t ∈ ts, I64 t.gr) :
    Calls Tryz.prog 32 #[v] w fun e w' => e = .returned (.bool (lostB g0 gt ts)) ∧ Kp No w w' := by
  obtain ⟨vg, vt, rfl, hg, ht⟩ := h
  have hg := hg.old
  have ht := ht.old
  have k1 := (Kp.refl No w).alloc (.cells #[vg, vt] 25)
  have b1 := Blk.new w 25 #[vg, vt]
  have z1 := World.size_alloc w (.cells #[vg, vt] 25)
  obtain ⟨w1, hw1⟩ : ∃ w1, w.alloc (.cells #[vg, vt] 25) = w1 := ⟨_, rfl⟩
  rw [hw1] at k1 b1 z1
  have k2 := (Kp.refl No w1).alloc (.map #[] 0)
  have m2 := Hr.new w1
  have z2 := World.size_alloc w1 (.map #[] 0)
  obtain ⟨w2, hw2⟩ : ∃ w2, w1.alloc (.map #[] 0) = w2 := ⟨_, rfl⟩
  rw [hw2] at k2 m2 z2
  rw [z1] at m2 z2
  have k3 := (Kp.refl No w2).alloc (.cells #[.map (some (w.heap.size + 1))] 85)
  have b3 := Blk.new w2 85 #[.map (some (w.heap.size + 1))]
  have z3 := World.size_alloc w2 (.cells #[.map (some (w.heap.size + 1))] 85)
  obtain ⟨w3, hw3⟩ : ∃ w3, w2.alloc (.cells #[.map (some (w.heap.size + 1))] 85) = w3 := ⟨_, rfl⟩
  rw [hw3] at k3 b3 z3
  rw [z2] at b3 z3
  have K3 := hid ((k1.trans k2).trans k3)
  have B1 := hid ((b1.kp0 k2).kp0 k3)
  have B3 := hid b3
  have M3 := hid (m2.kp0 k3)
  have HG := hid (((hg.kp0 k1).kp0 k2).kp0 k3)
  have HT := hid (((ht.kp0 k1).kp0 k2).kp0 k3)
  have Z3 := hid z3
  have HP := hid hp
  have HPT := hid hpt
  have hmm := @run_makeMap Tryz.prog
  obtain ⟨r, hr⟩ : ∃ r, lostB g0 gt ts = r := ⟨_, rfl⟩
  rw [hr]
  have HR := hid hr
  clear hr
  obtain ⟨gs, hgs⟩ : ∃ gs, g0 :: gt = gs := ⟨_, rfl⟩
  have HGS := hid hgs
  have hlen : 0 < gs.length := by rw [← hgs]; simp
  rw [hgs] at HG hl HP hg
  obtain ⟨A, c, rfl, _⟩ := id hg
  obtain ⟨n, hn⟩ : ∃ n, gs.length = n := ⟨_, rfl⟩
  rw [hn] at HG hl b1 B1 hw1 hlen ⊢
  have HN := hid hn
  have s0 := B1.out.cell 0
  simp only [List.getElem?_toArray, List.getElem?_cons_zero] at s0
  clear k1 k2 k3 b1 b3 m2 hg ht hp hpt hn hgs
  go_enter Tryz.func32, Tryz.ntmps32
  go_upto_region 2 with fail
  clear hw1 hw2 hw3
  go_wp2_with fail
  go_loopw [11] (fun i wr => ∃ k : Nat, k ≤ n ∧ i = .int .i64 (k : Int) ∧ Hid (Hr wr (w.heap.size + 1) ((gs.take k).map (·.id))) ∧ Hid (Kp (Only (w.heap.size + 1)) w3 wr)) (fun i _ => n - (vI i).toNat)
  case atStart => exact ⟨0, Nat.zero_le _, rfl, M3, hid (Kp.refl _ _)⟩
  case round =>
    obtain ⟨k, hk, rfl, HO, KW⟩ := hrel
    have zw := KW.out.size
    have Bw := B1.out.kp KW.out (by show ¬ w.heap.size = w.heap.size + 1; omega)
    have Cw := B3.out.kp KW.out (by show ¬ w.heap.size + 1 + 1 = w.heap.size + 1; omega)
    have s0 := Bw.cell 0
    have s1 := Bw.cell 1
    have h0 := Cw.cell 0
    simp only [List.getElem?_toArray, List.getElem?_cons_zero, List.getElem?_cons_succ] at s0 s1 h0
    have BW := hid Bw
    have CW := hid Cw
    clear Bw Cw
    by_cases hkn : k < n
    · have hkl : k < gs.length := by rw [HN.out]; exact hkn
      have Ov := HG.out.kp KW.out (fun i hi hPi e => by have e : i = w.heap.size + 1 := e; have hPi : i < w.heap.size := hPi; omega)
      obtain ⟨b, off, rfl⟩ := Ov.there (by omega)
      have q0 := Ov.cell (j := k) (i := 0) (Kp.refl No _) hkl (by omega) rfl
      have q1 := Ov.cell (j := k) (i := 1) (Kp.refl No _) hkl (by omega) rfl
      have q2 := Ov.cell (j := k) (i := 2) (Kp.refl No _) hkl (by omega) rfl
      have q3 := Ov.cell (j := k) (i := 3) (Kp.refl No _) hkl (by omega) rfl
      have q4 := Ov.cell (j := k) (i := 4) (Kp.refl No _) hkl (by omega) rfl
      have q5 := Ov.cell (j := k) (i := 5) (Kp.refl No _) hkl (by omega) rfl
      have HS := hid (take1_map gs hkl)
      have hgy : gs.getD k gs0 ∈ gs := by simp [List.getD, hkl]
      have hpi := (HP.out _ hgy).1
      obtain ⟨x, hx⟩ : ∃ x, gs.getD k gs0 = x := ⟨_, rfl⟩
      rw [hx] at q0 q1 q2 q3 q4 q5 HS hpi
      simp only [gc, ge, List.getD_cons_zero, List.getD_cons_succ, Nat.add_zero] at q0 q1 q2 q3 q4 q5
      simp only [← Nat.add_assoc] at q1 q2 q3 q4 q5
      have hg1 : (k : Int) < (n : Int) := by omega
      have hwk := wrapI (x := (k : Int) + 1) (by unfold I64; omega)
      have k4 := (Kp.refl No wr).alloc (.cells #[.int .i64 x.id, .int .i64 x.par, .int .i64 x.wt, .int .i64 x.pd, .int .i64 x.qt, .int .i64 x.us] 51)
      have c4 := (CW.out.kp0 k4).cell 0
      simp only [List.getElem?_toArray, List.getElem?_cons_zero] at c4
      obtain ⟨w8, hr8, m8, k8⟩ := (HO.out.kp0 k4).put hpi (by rw [List.length_map, List.length_take]; simp only [maxLen]; omega)
      have M8 := hid m8
      have K8 := hid ((KW.out.step k4 fun i _ e => e.elim).step k8 fun i _ e => e)
      clear Ov hx hgy m8 k8 k4
      go_wp2_with fail
      go_roundw
      case rel => exact ⟨k + 1, by omega, by go_num, hid (by rw [HS.out]; exact M8.out), K8⟩
      case measure => simp [vI]; omega
    · have hkk : k = n := by omega
      subst hkk
      have hng : ¬ (k : Int) < (k : Int) := by omega
      have O1 := HO.out
      rw [List.take_of_length_le (by rw [HN.out]; omega)] at O1
      have k4a := (Kp.refl No wr).alloc (.cells #[.nilFunc] 88)
      have b4a := Blk.new wr 88 #[.nilFunc]
      obtain ⟨w4a, hw4a⟩ : ∃ w4a, wr.alloc (.cells #[.nilFunc] 88) = w4a := ⟨_, rfl⟩
      rw [hw4a] at k4a b4a
      have t4a := b4a.cell 0
      have f4a : w4a.frozen? ⟨wr.heap.size, 0, none⟩ = false := b4a.frozen 0
      simp only [List.getElem?_toArray, List.getElem?_cons_zero] at t4a
      have k4 := k4a.step (Kp.set1 wr.heap.size 0 w4a (.func (.func 56) #[] #[.pointer (some ⟨w.heap.size + 1 + 1, 0, none⟩)])) (fun i hi e => by have e : i = wr.heap.size := e; omega)
      have b4 := b4a.put 0 (.func (.func 56) #[] #[.pointer (some ⟨w.heap.size + 1 + 1, 0, none⟩)])
      obtain ⟨w4, hw4⟩ : ∃ w4, w4a.setCell ⟨wr.heap.size, 0, none⟩ (.func (.func 56) #[] #[.pointer (some ⟨w.heap.size + 1 + 1, 0, none⟩)]) = w4 := ⟨_, rfl⟩
      rw [hw4] at k4 b4
      have KW4 := hid k4
      have d4 := CW.out.kp0 k4
      have hGw := (HG.out.kp KW.out (fun i hi hPi e => by have e : i = w.heap.size + 1 := e; have hPi : i < w.heap.size := hPi; omega)).kp0 k4
      have hTw := (HT.out.kp KW.out (fun i hi hPi e => by have e : i = w.heap.size + 1 := e; have hPi : i < w.heap.size := hPi; omega)).kp0 k4
      obtain ⟨b, off, rfl⟩ := hGw.there (by rw [HN.out]; omega)
      have q1 := hGw.cell (j := 0) (i := 1) (Kp.refl No _) (by rw [HN.out]; omega) (by omega) rfl
      have hx0 : gs.getD 0 gs0 = g0 := by rw [← HGS.out]; rfl
      rw [hx0] at q1
      simp only [gc, ge, List.getD_cons_zero, List.getD_cons_succ, Nat.zero_mul, Nat.zero_add] at q1
      have D4 := hid d4
      have F4 := hid b4
      have M4 := hid (O1.kp0 k4)
      have K4 := hid ((KW.out.step k4 fun i _ e => e.elim))
      have hz4 := k4.size
      have EG2 := hid (show ∀ args w, (callFunc 57 args).run Tryz.prog w = .ok (.enter 57 args) w from enters_of Tryz.func57 (by kernel_rfl) rfl)
      have EG3 := hid (show ∀ args w, (callFunc 58 args).run Tryz.prog w = .ok (.enter 58 args) w from enters_of Tryz.func58 (by kernel_rfl) rfl)
      have hF : ∀ W, Kp No w4 W → W.cell? ⟨wr.heap.size, 0, none⟩ = some (.func (.func 56) #[] #[.pointer (some ⟨w.heap.size + 1 + 1, 0, none⟩)]) ∧ W.cell? ⟨w.heap.size + 1 + 1, 0, none⟩ = some (.map (some (w.heap.size + 1))) ∧ Hr W (w.heap.size + 1) (gs.map fun y : GS => y.id) := fun W k => by
        have a1 := (F4.out.kp0 k).cell 0
        have a2 := (D4.out.kp0 k).cell 0
        simp only [List.getElem?_toArray, List.getElem?_cons_zero] at a1 a2
        exact ⟨a1, a2, M4.out.kp0 k⟩
      have HGA := hid (anyG_on (fun g => I64 g.par) (fun g hg => (HP.out g hg).2) (by simp [gs0, I64]) hGw (fun g => g.par != 0 && !decide (g.par ∈ gs.map fun y : GS => y.id)) 57 #[.pointer (some ⟨wr.heap.size, 0, none⟩)] EG2.out (fun W x hx k => lostG_any x (hF W k).2.2 hx (hF W k).2.1 (hF W k).1))
      have HTA := hid (fun (W : World) (k : Kp No w4 W) => anyT_on (fun t => I64 t.gr) (fun t ht => HPT.out t ht) (by simp [ts0, I64]) (hTw.kp0 k) (fun t => !decide (t.gr ∈ gs.map fun y : GS => y.id)) 58 #[.pointer (some ⟨wr.heap.size, 0, none⟩)] EG3.out (fun W2 x hx k2 => lostT_any x (hF W2 (k.trans k2)).2.2 hx (hF W2 (k.trans k2)).2.1 (hF W2 (k.trans k2)).1))
      have hres : lostB g0 gt ts = (g0.par != 0 || (gs.any fun g => g.par != 0 && !decide (g.par ∈ gs.map fun y : GS => y.id)) || ts.any fun t => !decide (t.gr ∈ gs.map fun y : GS => y.id)) := by unfold lostB; rw [HGS.out]
      obtain ⟨pg, hpg⟩ : ∃ pg, (g0.par != 0) = pg := ⟨_, rfl⟩
      obtain ⟨ag, hag⟩ : ∃ ag, (gs.any fun g => g.par != 0 && !decide (g.par ∈ gs.map fun y : GS => y.id)) = ag := ⟨_, rfl⟩
      obtain ⟨at_, hat⟩ : ∃ at_, (ts.any fun t => !decide (t.gr ∈ gs.map fun y : GS => y.id)) = at_ := ⟨_, rfl⟩
      rw [hag] at HGA
      rw [hat] at HTA
      have HR2 := hid (show r = (pg || ag || at_) by rw [← HR.out, hres, hag, hat, hpg])
      have BB := hid ((B1.out.kp KW.out (by show ¬ w.heap.size = w.heap.size + 1; omega)).kp0 KW4.out)
      have t0 := BB.out.cell 0
      have t1 := BB.out.cell 1
      simp only [List.getElem?_toArray, List.getElem?_cons_zero, List.getElem?_cons_succ] at t0 t1
      have KF := hid (show Kp No w w4 from (K3.out.step K4.out fun i hi e => by have e : i = w.heap.size + 1 := e; omega))
      clear hGw hTw d4 b4 b4a k4 k4a hag hat hF hres HO HG
      cases pg <;> cases ag
      all_goals (
        go_upto_region 8 with fail
        clear hw4 hw4a t4a f4a
        go_wp2_with (first
          | (go_at_call 27
             refine HGA.out.mono ?_
             rintro e w5 ⟨rfl, k5⟩
             have K5 := hid k5
             have BV := BB.out.kp0 k5
             have v1 := BV.cell 1
             simp only [List.getElem?_toArray, List.getElem?_cons_zero, List.getElem?_cons_succ] at v1
             clear k5 BV)
          | (go_at_call 29
             refine (HTA.out _ K5.out).mono ?_
             rintro e w6 ⟨rfl, k6⟩
             have K6 := hid (K5.out.trans k6)
             clear k6))
        go_ret
        first
        | exact ⟨by rw [HR2.out]; rfl, KF.out.trans K6.out⟩
        | exact ⟨by rw [HR2.out]; rfl, KF.out.trans K5.out⟩
        | exact ⟨by rw [HR2.out]; rfl, KF.out⟩)
end Go.Proofs.YtjmaingpiieioaaGreat

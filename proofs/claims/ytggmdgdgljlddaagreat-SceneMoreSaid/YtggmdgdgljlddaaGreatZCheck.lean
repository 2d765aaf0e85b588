/-
  ZLost ZTwice ZCheck: texts laid into one.
-/
import Derived.Test.YtggmdgdgljlddaaGreatZIds
import Derived.Laws.EntriesVeiled
import Derived.Test.YtggmdgdgljlddaaGreatZSort
import Derived.Shelf.SortM.Plain
import Derived.Shelf.SortM.SortNone
import Derived.Shelf.SlicesG.CompactI

/-
  Contract of isLost.
-/
namespace Go.Proofs.YtggmdgdgljlddaaGreat
open Go.RowKit Go.Shelf

instance (x : Int) : Decidable (I64 x) := by unfold I64; infer_instance
theorem below_of_kp {w w' : World} {B : Nat} (h : Kp No w w') (hB : B ≤ w.heap.size) : Below B w w' := ⟨h.os, h.tape, h.output, h.size, fun k hk => h.block k (by omega) fun e => e⟩
/-- .. asked only of those that are in the list. -/
theorem anyG_on {w : World} {P : Nat → Prop} {v : Value} {xs : List GS} (I : GS → Prop) [DecidablePred I] (hI : ∀ x ∈ xs, I x) (h00 : I gs0) (h : Rw 6 gc gs0 w P v xs) (p : GS → Bool) (g : Nat) (lb : Array Value) (eg : ∀ args w, (callFunc g args).run Tryz.prog w = .ok (.enter g args) w)
    (hp : ∀ (W : World) (x : GS), I x → Kp No w W → Calls Tryz.prog g (#[.agg (ge x).toArray] ++ lb) W fun e w' => e = .returned (.bool (p x)) ∧ Kp No W w') : Calls Tryz.prog 10 #[v, .func (.func g) #[] lb] w fun e w' => e = .returned (.bool (xs.any p)) ∧ Kp No w w' := by
  have h0 := h
  obtain ⟨A, c, rfl, hc, hm, hx⟩ := h
  unfold maxLen at hm
  by_cases h1 : xs = []
  · subst h1
    refine (any0G A c _ w).mono ?_
    rintro e w' ⟨rfl, rfl⟩
    exact ⟨rfl, Kp.refl _ _⟩
  · obtain ⟨b, o, rfl, hb, _, _⟩ := hx (List.length_pos_iff.2 h1)
    have hfix : ∀ x : GS, I (if I x then x else gs0) := fun x => by
      by_cases hx : I x
      · rw [if_pos hx]
        exact hx
      · rw [if_neg hx]
        exact h00
    have := AnyQ.slices_ContainsFunc Tryz.anyG 6 Tryz.isAgg37 Tryz.sizeOf37 (fun x => ge (if I x then x else gs0)) (fun x => ge_len _) (fun x => p (if I x then x else gs0)) g lb eg b o xs.length c xs w
      (fun W x hB => (hp W _ (hfix x) (kp_of_below hB)).mono fun e w' h => ⟨h.1, below_of_kp ((kp_of_below hB).trans h.2) (Nat.le_refl _)⟩) (Nat.le_refl _) (by omega) hb (fun j hj i u hi => by
        have hm : xs[j]! ∈ xs := by rw [getElem!_pos xs j hj]; exact List.getElem_mem hj
        rw [if_pos (hI _ hm)] at hi
        exact h0.cellsG j hj i u hi)
    refine Calls.mono this ?_
    rintro e w' ⟨rfl, hw⟩
    rw [List.take_length]
    refine ⟨?_, kp_of_below hw⟩
    have : (xs.any fun x => p (if I x then x else gs0)) = xs.any p := by
      rw [Bool.eq_iff_iff, List.any_eq_true, List.any_eq_true]
      exact ⟨fun ⟨x, hx, hp⟩ => ⟨x, hx, by rwa [if_pos (hI x hx)] at hp⟩, fun ⟨x, hx, hp⟩ => ⟨x, hx, by rwa [if_pos (hI x hx)]⟩⟩
    rw [this]
/-- .. asked only of those that are in the list. -/
theorem anyT_on {w : World} {P : Nat → Prop} {v : Value} {xs : List TS} (I : TS → Prop) [DecidablePred I] (hI : ∀ x ∈ xs, I x) (h00 : I ts0) (h : Rw 8 tc ts0 w P v xs) (p : TS → Bool) (g : Nat) (lb : Array Value) (eg : ∀ args w, (callFunc g args).run Tryz.prog w = .ok (.enter g args) w)
    (hp : ∀ (W : World) (x : TS), I x → Kp No w W → Calls Tryz.prog g (#[.agg (te x).toArray] ++ lb) W fun e w' => e = .returned (.bool (p x)) ∧ Kp No W w') : Calls Tryz.prog 12 #[v, .func (.func g) #[] lb] w fun e w' => e = .returned (.bool (xs.any p)) ∧ Kp No w w' := by
  have h0 := h
  obtain ⟨A, c, rfl, hc, hm, hx⟩ := h
  unfold maxLen at hm
  by_cases h1 : xs = []
  · subst h1
    refine (any0T A c _ w).mono ?_
    rintro e w' ⟨rfl, rfl⟩
    exact ⟨rfl, Kp.refl _ _⟩
  · obtain ⟨b, o, rfl, hb, _, _⟩ := hx (List.length_pos_iff.2 h1)
    have hfix : ∀ x : TS, I (if I x then x else ts0) := fun x => by
      by_cases hx : I x
      · rw [if_pos hx]
        exact hx
      · rw [if_neg hx]
        exact h00
    have := AnyQ.slices_ContainsFunc Tryz.anyT 8 Tryz.isAgg41 Tryz.sizeOf41 (fun x => te (if I x then x else ts0)) (fun x => te_len _) (fun x => p (if I x then x else ts0)) g lb eg b o xs.length c xs w
      (fun W x hB => (hp W _ (hfix x) (kp_of_below hB)).mono fun e w' h => ⟨h.1, below_of_kp ((kp_of_below hB).trans h.2) (Nat.le_refl _)⟩) (Nat.le_refl _) (by omega) hb (fun j hj i u hi => by
        have hm : xs[j]! ∈ xs := by rw [getElem!_pos xs j hj]; exact List.getElem_mem hj
        rw [if_pos (hI _ hm)] at hi
        exact h0.cellsT j hj i u hi)
    refine Calls.mono this ?_
    rintro e w' ⟨rfl, hw⟩
    rw [List.take_length]
    refine ⟨?_, kp_of_below hw⟩
    have : (xs.any fun x => p (if I x then x else ts0)) = xs.any p := by
      rw [Bool.eq_iff_iff, List.any_eq_true, List.any_eq_true]
      exact ⟨fun ⟨x, hx, hp⟩ => ⟨x, hx, by rwa [if_pos (hI x hx)] at hp⟩, fun ⟨x, hx, hp⟩ => ⟨x, hx, by rwa [if_pos (hI x hx)]⟩⟩
    rw [this]
def ev0 (_ : Unit) : Value := .agg #[]
def enc0 (_ : Unit) : DataW Unit := .agg []
theorem hK : KM Tryz.prog 70 3 71 ev0 enc0 () where
  und := by kernel_rfl
  key := by kernel_rfl
  zero := fun w => by kernel_rfl
  inj := fun a b h => rfl
  evj := fun a b h => rfl
/-- A map of those that are here. -/
def Hr (w : World) (m : Nat) (l : List Int) : Prop := ∃ f cnt, Mk Tryz.prog 3 ev0 enc0 w m f cnt ∧ (∀ x, (f x).isSome = decide (x ∈ l)) ∧ cnt ≤ l.length
section
variable {w w' : World} {S : Nat → Prop} {m : Nat} {l : List Int} {x : Int}
theorem Hr.kp (h : Hr w m l) (k : Kp S w w') (hm : ¬ S m) : Hr w' m l := by
  obtain ⟨f, cnt, h1, h2⟩ := h
  exact ⟨f, cnt, h1.kp k hm, h2⟩
theorem Hr.kp0 (h : Hr w m l) (k : Kp No w w') : Hr w' m l := h.kp k fun e => e
theorem Hr.lt (h : Hr w m l) : m < w.heap.size := by
  obtain ⟨f, cnt, h1, h2⟩ := h
  exact h1.lt
theorem Hr.new (w : World) : Hr (w.alloc (.map #[] 0)) w.heap.size [] := ⟨_, 0, Mk.new w, fun x => by simp, Nat.le_refl _⟩
theorem Hr.look (h : Hr w m l) (hx : I64 x) : (Instr.lookup 70 (.map (some m)) (.int .i64 x) true).run Tryz.prog w = .ok (.tuple #[.agg #[], .bool (decide (x ∈ l))]) w := by
  obtain ⟨f, cnt, h1, h2, _⟩ := h
  rw [← h2]
  cases e : f x with
  | some a => exact Mk.look_some hK h1 hx e true
  | none => exact Mk.look_none hK h1 hx e true
theorem Hr.put (h : Hr w m l) (hx : I64 x) (hl : l.length < maxLen) : ∃ w', (Instr.mapUpdate 70 (.map (some m)) (.int .i64 x) (.agg #[])).run Tryz.prog w = .ok () w' ∧ Hr w' m (l ++ [x]) ∧ Kp (Only m) w w' := by
  obtain ⟨f, cnt, h1, h2, h3⟩ := h
  obtain ⟨w', hr, g1, g2⟩ := h1.put hK () hx (by omega)
  refine ⟨w', hr, ⟨_, _, g1, fun y => ?_, ?_⟩, g2⟩
  · by_cases e : y = x
    · subst e
      simp
    · simp [e, h2]
  · rw [List.length_append, List.length_singleton]
    split <;> omega
set_option maxRecDepth 100000 in
theorem lacks_any (h : Hr w m l) (hx : I64 x) {hb : Nat} (hc : w.cell? ⟨hb, 0, none⟩ = some (.map (some m))) {b : Bool} (he : decide (x ∈ l) = b) :
    Calls Tryz.prog 32 #[.int .i64 x, .pointer (some ⟨hb, 0, none⟩)] w fun e w' => e = .returned (.bool (!b)) ∧ Kp No w w' := by
  have hlk := h.look hx
  rw [he] at hlk
  have K1 := hid ((Kp.refl No w).alloc (.cells #[] 71))
  clear h he
  cases b
  all_goals (
    go_enter Tryz.func32, Tryz.ntmps32
    go_wp2
    go_ret
    exact ⟨rfl, K1.out⟩)
set_option maxRecDepth 100000 in
theorem lostG_any (g : GS) (h : Hr w m l) (hx : I64 g.par) {hb lb : Nat} (hc : w.cell? ⟨hb, 0, none⟩ = some (.map (some m))) (hlb : w.cell? ⟨lb, 0, none⟩ = some (.func (.func 32) #[] #[.pointer (some ⟨hb, 0, none⟩)])) :
    Calls Tryz.prog 33 #[.agg (ge g).toArray, .pointer (some ⟨lb, 0, none⟩)] w fun e w' => e = .returned (.bool (g.par != 0 && !decide (g.par ∈ l))) ∧ Kp No w w' := by
  obtain ⟨id, par, wt, pd, qt, us⟩ := g
  unfold ge
  simp only at hx ⊢
  have k1 := (Kp.refl No w).alloc (.cells #[.int .i64 id, .int .i64 par, .int .i64 wt, .int .i64 pd, .int .i64 qt, .int .i64 us] 37)
  have h1 := h.kp0 k1
  obtain ⟨b, hb1⟩ : ∃ b, decide (par ∈ l) = b := ⟨_, rfl⟩
  rw [hb1]
  have hbl : hb < w.heap.size := World.block_lt_of_cell? w _ hc
  have hll : lb < w.heap.size := World.block_lt_of_cell? w _ hlb
  have c1 := (k1.cell (p := ⟨hb, 0, none⟩) hbl fun e => e).trans hc
  have c2 := (k1.cell (p := ⟨lb, 0, none⟩) hll fun e => e).trans hlb
  have HA := hid (lacks_any h1 hx c1 hb1)
  have K1 := hid k1
  clear k1 h1 hb1 h hx hc
  by_cases hp : par = 0
  · subst hp
    go_enter Tryz.func33, Tryz.ntmps33
    go_wp2_with fail
    go_ret
    exact ⟨by simp, K1.out⟩
  · have hp2 : (par != 0) = true := by simpa using hp
    go_enter Tryz.func33, Tryz.ntmps33
    go_wp2_with (first
      | (go_at_call 32
         refine HA.out.mono ?_
         rintro e w2 ⟨rfl, k2⟩
         have K2 := hid (K1.out.trans k2)
         clear k2))
    go_ret
    exact ⟨by simp [hp], K2.out⟩
set_option maxRecDepth 100000 in
theorem lostT_any (t : TS) (h : Hr w m l) (hx : I64 t.gr) {hb lb : Nat} (hc : w.cell? ⟨hb, 0, none⟩ = some (.map (some m))) (hlb : w.cell? ⟨lb, 0, none⟩ = some (.func (.func 32) #[] #[.pointer (some ⟨hb, 0, none⟩)])) :
    Calls Tryz.prog 34 #[.agg (te t).toArray, .pointer (some ⟨lb, 0, none⟩)] w fun e w' => e = .returned (.bool (!decide (t.gr ∈ l))) ∧ Kp No w w' := by
  obtain ⟨id, gr, wt, co, sl, ra, lv, lr⟩ := t
  unfold te
  simp only at hx ⊢
  have k1 := (Kp.refl No w).alloc (.cells #[.int .i64 id, .int .i64 gr, .int .i64 wt, .int .u64 co, .bool sl, .int .i64 ra, .int .i64 lv, .int .i64 lr] 41)
  have h1 := h.kp0 k1
  obtain ⟨b, hb1⟩ : ∃ b, decide (gr ∈ l) = b := ⟨_, rfl⟩
  rw [hb1]
  have hbl : hb < w.heap.size := World.block_lt_of_cell? w _ hc
  have hll : lb < w.heap.size := World.block_lt_of_cell? w _ hlb
  have c1 := (k1.cell (p := ⟨hb, 0, none⟩) hbl fun e => e).trans hc
  have c2 := (k1.cell (p := ⟨lb, 0, none⟩) hll fun e => e).trans hlb
  have HA := hid (lacks_any h1 hx c1 hb1)
  have K1 := hid k1
  clear k1 h1 hb1 h hx hc
  go_enter Tryz.func34, Tryz.ntmps34
  go_wp2_with (first
    | (go_at_call 32
       refine HA.out.mono ?_
       rintro e w2 ⟨rfl, k2⟩
       have K2 := hid (K1.out.trans k2)
       clear k2))
  go_ret
  exact ⟨rfl, K2.out⟩
end
theorem Rw.old {α : Type} {n : Nat} {f : α → Nat → Value} {d : α} {w : World} {P : Nat → Prop} {v : Value} {xs : List α} (h : Rw n f d w P v xs) : Rw n f d w (fun i => i < w.heap.size) v xs := by
  obtain ⟨A, c, rfl, h1, h2, h3⟩ := h
  refine ⟨A, c, rfl, h1, h2, fun h0 => ?_⟩
  obtain ⟨b, o, rfl, g1, _, g3⟩ := h3 h0
  exact ⟨b, o, rfl, g1, g1, g3⟩
def lostB (g0 : GS) (tl : List GS) (ts : List TS) : Bool := g0.par != 0 || (g0 :: tl).any (fun g => g.par != 0 && !decide (g.par ∈ (g0 :: tl).map (·.id))) || ts.any fun t => !decide (t.gr ∈ (g0 :: tl).map (·.id))
theorem take1_map (gs : List GS) {k : Nat} (h : k < gs.length) : (gs.take (k + 1)).map (·.id) = (gs.take k).map (·.id) ++ [(gs.getD k gs0).id] := by rw [take_s gs h gs0, List.map_append]; rfl
set_option maxRecDepth 100000 in
set_option maxHeartbeats 2000000 in
theorem lost_any {w : World} {P : Nat → Prop} {v : Value} {g0 : GS} {gt : List GS} {ts : List TS} (h : Sce w P v (g0 :: gt) ts) (hl : (g0 :: gt).length ≤ 1000000) (hp : ∀ g ∈ g0 :: gt, I64 g.id ∧ I64 g.par) (hpt : ∀ t ∈ ts, I64 t.gr) :
    Calls Tryz.prog 15 #[v] w fun e w' => e = .returned (.bool (lostB g0 gt ts)) ∧ Kp No w w' := by
  obtain ⟨vg, vt, rfl, hg, ht⟩ := h
  have hg := hg.old
  have ht := ht.old
  have k1 := (Kp.refl No w).alloc (.cells #[vg, vt] 25)
  have b1 := Blk.new w 25 #[vg, vt]
  have z1 := World.size_alloc w (.cells #[vg, vt] 25)
  obtain ⟨w1, hw1⟩ : ∃ w1, w.alloc (.cells #[vg, vt] 25) = w1 := ⟨_, rfl⟩
  rw [hw1] at k1 b1 z1
  have k2 := (Kp.refl No w1).alloc (.map #[] 0)
  have m2 := Hr.new w1
  have z2 := World.size_alloc w1 (.map #[] 0)
  obtain ⟨w2, hw2⟩ : ∃ w2, w1.alloc (.map #[] 0) = w2 := ⟨_, rfl⟩
  rw [hw2] at k2 m2 z2
  rw [z1] at m2 z2
  have k3 := (Kp.refl No w2).alloc (.cells #[.map (some (w.heap.size + 1))] 70)
  have b3 := Blk.new w2 70 #[.map (some (w.heap.size + 1))]
  have z3 := World.size_alloc w2 (.cells #[.map (some (w.heap.size + 1))] 70)
  obtain ⟨w3, hw3⟩ : ∃ w3, w2.alloc (.cells #[.map (some (w.heap.size + 1))] 70) = w3 := ⟨_, rfl⟩
  rw [hw3] at k3 b3 z3
  rw [z2] at b3 z3
  have K3 := hid ((k1.trans k2).trans k3)
  have B1 := hid ((b1.kp0 k2).kp0 k3)
  have B3 := hid b3
  have M3 := hid (m2.kp0 k3)
  have HG := hid (((hg.kp0 k1).kp0 k2).kp0 k3)
  have HT := hid (((ht.kp0 k1).kp0 k2).kp0 k3)
  have Z3 := hid z3
  have HP := hid hp
  have HPT := hid hpt
  have hmm := @run_makeMap Tryz.prog
  obtain ⟨r, hr⟩ : ∃ r, lostB g0 gt ts = r := ⟨_, rfl⟩
  rw [hr]
  have HR := hid hr
  clear hr
  obtain ⟨gs, hgs⟩ : ∃ gs, g0 :: gt = gs := ⟨_, rfl⟩
  have HGS := hid hgs
  have hlen : 0 < gs.length := by rw [← hgs]; simp
  rw [hgs] at HG hl HP hg
  obtain ⟨A, c, rfl, _⟩ := id hg
  obtain ⟨n, hn⟩ : ∃ n, gs.length = n := ⟨_, rfl⟩
  rw [hn] at HG hl b1 B1 hw1 hlen ⊢
  have HN := hid hn
  have s0 := B1.out.cell 0
  simp only [List.getElem?_toArray, List.getElem?_cons_zero] at s0
  clear k1 k2 k3 b1 b3 m2 hg ht hp hpt hn hgs
  go_enter Tryz.func15, Tryz.ntmps15
  go_upto_region 2 with fail
  clear hw1 hw2 hw3
  go_wp2_with fail
  go_loopw [11] (fun i wr => ∃ k : Nat, k ≤ n ∧ i = .int .i64 (k : Int) ∧ Hid (Hr wr (w.heap.size + 1) ((gs.take k).map (·.id))) ∧ Hid (Kp (Only (w.heap.size + 1)) w3 wr)) (fun i _ => n - (vI i).toNat)
  case atStart => exact ⟨0, Nat.zero_le _, rfl, M3, hid (Kp.refl _ _)⟩
  case round =>
    obtain ⟨k, hk, rfl, HO, KW⟩ := hrel
    have zw := KW.out.size
    have Bw := B1.out.kp KW.out (by show ¬ w.heap.size = w.heap.size + 1; omega)
    have Cw := B3.out.kp KW.out (by show ¬ w.heap.size + 1 + 1 = w.heap.size + 1; omega)
    have s0 := Bw.cell 0
    have s1 := Bw.cell 1
    have h0 := Cw.cell 0
    simp only [List.getElem?_toArray, List.getElem?_cons_zero, List.getElem?_cons_succ] at s0 s1 h0
    have BW := hid Bw
    have CW := hid Cw
    clear Bw Cw
    by_cases hkn : k < n
    · have hkl : k < gs.length := by rw [HN.out]; exact hkn
      have Ov := HG.out.kp KW.out (fun i hi hPi e => by have e : i = w.heap.size + 1 := e; have hPi : i < w.heap.size := hPi; omega)
      obtain ⟨b, off, rfl⟩ := Ov.there (by omega)
      have q0 := Ov.cell (j := k) (i := 0) (Kp.refl No _) hkl (by omega) rfl
      have q1 := Ov.cell (j := k) (i := 1) (Kp.refl No _) hkl (by omega) rfl
      have q2 := Ov.cell (j := k) (i := 2) (Kp.refl No _) hkl (by omega) rfl
      have q3 := Ov.cell (j := k) (i := 3) (Kp.refl No _) hkl (by omega) rfl
      have q4 := Ov.cell (j := k) (i := 4) (Kp.refl No _) hkl (by omega) rfl
      have q5 := Ov.cell (j := k) (i := 5) (Kp.refl No _) hkl (by omega) rfl
      have HS := hid (take1_map gs hkl)
      have hgy : gs.getD k gs0 ∈ gs := by simp [List.getD, hkl]
      have hpi := (HP.out _ hgy).1
      obtain ⟨x, hx⟩ : ∃ x, gs.getD k gs0 = x := ⟨_, rfl⟩
      rw [hx] at q0 q1 q2 q3 q4 q5 HS hpi
      simp only [gc, ge, List.getD_cons_zero, List.getD_cons_succ, Nat.add_zero] at q0 q1 q2 q3 q4 q5
      simp only [← Nat.add_assoc] at q1 q2 q3 q4 q5
      have hg1 : (k : Int) < (n : Int) := by omega
      have hwk := wrapI (x := (k : Int) + 1) (by unfold I64; omega)
      have k4 := (Kp.refl No wr).alloc (.cells #[.int .i64 x.id, .int .i64 x.par, .int .i64 x.wt, .int .i64 x.pd, .int .i64 x.qt, .int .i64 x.us] 37)
      have c4 := (CW.out.kp0 k4).cell 0
      simp only [List.getElem?_toArray, List.getElem?_cons_zero] at c4
      obtain ⟨w8, hr8, m8, k8⟩ := (HO.out.kp0 k4).put hpi (by rw [List.length_map, List.length_take]; simp only [maxLen]; omega)
      have M8 := hid m8
      have K8 := hid ((KW.out.step k4 fun i _ e => e.elim).step k8 fun i _ e => e)
      clear Ov hx hgy m8 k8 k4
      go_wp2_with fail
      go_roundw
      case rel => exact ⟨k + 1, by omega, by go_num, hid (by rw [HS.out]; exact M8.out), K8⟩
      case measure => simp [vI]; omega
    · have hkk : k = n := by omega
      subst hkk
      have hng : ¬ (k : Int) < (k : Int) := by omega
      have O1 := HO.out
      rw [List.take_of_length_le (by rw [HN.out]; omega)] at O1
      have k4a := (Kp.refl No wr).alloc (.cells #[.nilFunc] 73)
      have b4a := Blk.new wr 73 #[.nilFunc]
      obtain ⟨w4a, hw4a⟩ : ∃ w4a, wr.alloc (.cells #[.nilFunc] 73) = w4a := ⟨_, rfl⟩
      rw [hw4a] at k4a b4a
      have t4a := b4a.cell 0
      have f4a : w4a.frozen? ⟨wr.heap.size, 0, none⟩ = false := b4a.frozen 0
      simp only [List.getElem?_toArray, List.getElem?_cons_zero] at t4a
      have k4 := k4a.step (Kp.set1 wr.heap.size 0 w4a (.func (.func 32) #[] #[.pointer (some ⟨w.heap.size + 1 + 1, 0, none⟩)])) (fun i hi e => by have e : i = wr.heap.size := e; omega)
      have b4 := b4a.put 0 (.func (.func 32) #[] #[.pointer (some ⟨w.heap.size + 1 + 1, 0, none⟩)])
      obtain ⟨w4, hw4⟩ : ∃ w4, w4a.setCell ⟨wr.heap.size, 0, none⟩ (.func (.func 32) #[] #[.pointer (some ⟨w.heap.size + 1 + 1, 0, none⟩)]) = w4 := ⟨_, rfl⟩
      rw [hw4] at k4 b4
      have KW4 := hid k4
      have d4 := CW.out.kp0 k4
      have hGw := (HG.out.kp KW.out (fun i hi hPi e => by have e : i = w.heap.size + 1 := e; have hPi : i < w.heap.size := hPi; omega)).kp0 k4
      have hTw := (HT.out.kp KW.out (fun i hi hPi e => by have e : i = w.heap.size + 1 := e; have hPi : i < w.heap.size := hPi; omega)).kp0 k4
      obtain ⟨b, off, rfl⟩ := hGw.there (by rw [HN.out]; omega)
      have q1 := hGw.cell (j := 0) (i := 1) (Kp.refl No _) (by rw [HN.out]; omega) (by omega) rfl
      have hx0 : gs.getD 0 gs0 = g0 := by rw [← HGS.out]; rfl
      rw [hx0] at q1
      simp only [gc, ge, List.getD_cons_zero, List.getD_cons_succ, Nat.zero_mul, Nat.zero_add] at q1
      have D4 := hid d4
      have F4 := hid b4
      have M4 := hid (O1.kp0 k4)
      have K4 := hid ((KW.out.step k4 fun i _ e => e.elim))
      have hz4 := k4.size
      have EG2 := hid (show ∀ args w, (callFunc 33 args).run Tryz.prog w = .ok (.enter 33 args) w from enters_of Tryz.func33 (by kernel_rfl) rfl)
      have EG3 := hid (show ∀ args w, (callFunc 34 args).run Tryz.prog w = .ok (.enter 34 args) w from enters_of Tryz.func34 (by kernel_rfl) rfl)
      have hF : ∀ W, Kp No w4 W → W.cell? ⟨wr.heap.size, 0, none⟩ = some (.func (.func 32) #[] #[.pointer (some ⟨w.heap.size + 1 + 1, 0, none⟩)]) ∧ W.cell? ⟨w.heap.size + 1 + 1, 0, none⟩ = some (.map (some (w.heap.size + 1))) ∧ Hr W (w.heap.size + 1) (gs.map fun y : GS => y.id) := fun W k => by
        have a1 := (F4.out.kp0 k).cell 0
        have a2 := (D4.out.kp0 k).cell 0
        simp only [List.getElem?_toArray, List.getElem?_cons_zero] at a1 a2
        exact ⟨a1, a2, M4.out.kp0 k⟩
      have HGA := hid (anyG_on (fun g => I64 g.par) (fun g hg => (HP.out g hg).2) (by simp [gs0, I64]) hGw (fun g => g.par != 0 && !decide (g.par ∈ gs.map fun y : GS => y.id)) 33 #[.pointer (some ⟨wr.heap.size, 0, none⟩)] EG2.out (fun W x hx k => lostG_any x (hF W k).2.2 hx (hF W k).2.1 (hF W k).1))
      have HTA := hid (fun (W : World) (k : Kp No w4 W) => anyT_on (fun t => I64 t.gr) (fun t ht => HPT.out t ht) (by simp [ts0, I64]) (hTw.kp0 k) (fun t => !decide (t.gr ∈ gs.map fun y : GS => y.id)) 34 #[.pointer (some ⟨wr.heap.size, 0, none⟩)] EG3.out (fun W2 x hx k2 => lostT_any x (hF W2 (k.trans k2)).2.2 hx (hF W2 (k.trans k2)).2.1 (hF W2 (k.trans k2)).1))
      have hres : lostB g0 gt ts = (g0.par != 0 || (gs.any fun g => g.par != 0 && !decide (g.par ∈ gs.map fun y : GS => y.id)) || ts.any fun t => !decide (t.gr ∈ gs.map fun y : GS => y.id)) := by unfold lostB; rw [HGS.out]
      obtain ⟨pg, hpg⟩ : ∃ pg, (g0.par != 0) = pg := ⟨_, rfl⟩
      obtain ⟨ag, hag⟩ : ∃ ag, (gs.any fun g => g.par != 0 && !decide (g.par ∈ gs.map fun y : GS => y.id)) = ag := ⟨_, rfl⟩
      obtain ⟨at_, hat⟩ : ∃ at_, (ts.any fun t => !decide (t.gr ∈ gs.map fun y : GS => y.id)) = at_ := ⟨_, rfl⟩
      rw [hag] at HGA
      rw [hat] at HTA
      have HR2 := hid (show r = (pg || ag || at_) by rw [← HR.out, hres, hag, hat, hpg])
      have BB := hid ((B1.out.kp KW.out (by show ¬ w.heap.size = w.heap.size + 1; omega)).kp0 KW4.out)
      have t0 := BB.out.cell 0
      have t1 := BB.out.cell 1
      simp only [List.getElem?_toArray, List.getElem?_cons_zero, List.getElem?_cons_succ] at t0 t1
      have KF := hid (show Kp No w w4 from (K3.out.step K4.out fun i hi e => by have e : i = w.heap.size + 1 := e; omega))
      clear hGw hTw d4 b4 b4a k4 k4a hag hat hF hres HO HG
      cases pg <;> cases ag
      all_goals (
        go_upto_region 8 with fail
        clear hw4 hw4a t4a f4a
        go_wp2_with (first
          | (go_at_call 10
             refine HGA.out.mono ?_
             rintro e w5 ⟨rfl, k5⟩
             have K5 := hid k5
             have BV := BB.out.kp0 k5
             have v1 := BV.cell 1
             simp only [List.getElem?_toArray, List.getElem?_cons_zero, List.getElem?_cons_succ] at v1
             clear k5 BV)
          | (go_at_call 12
             refine (HTA.out _ K5.out).mono ?_
             rintro e w6 ⟨rfl, k6⟩
             have K6 := hid (K5.out.trans k6)
             clear k6))
        go_ret
        first
        | exact ⟨by rw [HR2.out]; rfl, KF.out.trans K6.out⟩
        | exact ⟨by rw [HR2.out]; rfl, KF.out.trans K5.out⟩
        | exact ⟨by rw [HR2.out]; rfl, KF.out⟩)
end Go.Proofs.YtggmdgdgljlddaaGreat

/-
  Contracts of slices.Sorted at ints, and of isTwice.
-/
namespace Go.Proofs.YtggmdgdgljlddaaGreat
open Go.RowKit Go.Shelf Go.Sort

def srtI (l : List Int) : List Int := l.mergeSort fun x y => decide (x ≤ y)
theorem srtI_pair (l : List Int) : (srtI l).Pairwise (fun a b => a ≤ b) := by
  have := List.pairwise_mergeSort (le := fun a b : Int => decide (a ≤ b)) (by simp; omega) (by simp; omega) l
  exact this.imp fun h => by simpa using h
theorem srtI_perm (l : List Int) : (srtI l).Perm l := List.mergeSort_perm _ _
theorem srtI_len (l : List Int) : (srtI l).length = l.length := List.length_mergeSort l
/-- Of a rising list fewer are left without those that stand twice in a row, just if one stands twice. -/
theorem compact_lt {l : List Int} (hs : l.Pairwise (fun a b => a ≤ b)) : (Lib.compact l).length < l.length ↔ ¬ l.Nodup := by
  have hlen : (Lib.compact l).length = ((List.range l.length).filter (Lib.keeps l.toArray)).length := by
    unfold Lib.compact Lib.compactUpTo
    rw [List.length_map]
  have hr : (List.range l.length).length = l.length := List.length_range
  have hlt : (Lib.compact l).length < l.length ↔ ∃ j, j < l.length ∧ ¬ Lib.keeps l.toArray j = true := by
    rw [hlen]
    conv => lhs; rhs; rw [← hr]
    rw [List.length_filter_lt_length_iff_exists]
    simp
  have hk : ∀ j, j < l.length → (Lib.keeps l.toArray j = true ↔ j = 0 ∨ l.getD j 0 ≠ l.getD (j - 1) 0) := fun j hj => by
    unfold Lib.keeps
    rw [decide_eq_true_eq]
    have e1 : l.toArray[j]! = l.getD j 0 := by simp [List.getD, hj]
    have e2 : l.toArray[j - 1]! = l.getD (j - 1) 0 := by
      have : j - 1 < l.length := by omega
      simp [List.getD, this]
    rw [e1, e2]
  rw [hlt]
  constructor
  · rintro ⟨j, hj, hn⟩ hnd
    rw [hk j hj] at hn
    have h0 : j ≠ 0 := fun e => hn (.inl e)
    have he : l.getD j 0 = l.getD (j - 1) 0 := Classical.byContradiction fun e => hn (.inr e)
    have hj1 : j - 1 < l.length := by omega
    simp only [List.getD, List.getElem?_eq_getElem hj, List.getElem?_eq_getElem hj1, Option.getD_some] at he
    exact List.pairwise_iff_getElem.1 hnd (j - 1) j hj1 hj (by omega) he.symm
  · intro hnd
    refine Classical.byContradiction fun hex => hnd ?_
    have hall : ∀ j, j < l.length → 0 < j → l.getD j 0 ≠ l.getD (j - 1) 0 := fun j hj h0 e => hex ⟨j, hj, fun h => by
      rcases (hk j hj).1 h with h | h
      · omega
      · exact h e⟩
    have hle : ∀ i j, i < j → j < l.length → l.getD i 0 ≤ l.getD j 0 := fun i j hij hj => by
      have := List.pairwise_iff_getElem.1 hs i j (by omega) hj hij
      simpa only [List.getD, List.getElem?_eq_getElem hj, List.getElem?_eq_getElem (show i < l.length by omega), Option.getD_some] using this
    have hlt2 : ∀ i j, i < j → j < l.length → l.getD i 0 < l.getD j 0 := fun i j hij hj => by
      have h1 : l.getD i 0 ≤ l.getD (j - 1) 0 := by
        by_cases e : i = j - 1
        · rw [e]
          exact Int.le_refl _
        · exact hle i (j - 1) (by omega) (by omega)
      have h2 := hle (j - 1) j (by omega) hj
      have h3 := hall j hj (by omega)
      omega
    rw [List.Nodup, List.pairwise_iff_getElem]
    intro i j hi hj hij
    have := hlt2 i j hij hj
    simp only [List.getD, List.getElem?_eq_getElem hj, List.getElem?_eq_getElem hi, Option.getD_some] at this
    omega
section
variable {w w' : World} {base g m c q : Nat} {xs d' : List Int} {os : Array Obj} {u : Value}
theorem Ow.holdsI (h : Ow w base 3 1 zI (.slice (some ⟨g, 0, none⟩) m c) xs) : Holds (Value.int .i64) w g 0 xs.toArray := by
  intro j hj
  rw [List.size_toArray] at hj
  obtain ⟨_, hlt, cs, hb⟩ := h.blk (k := g) rfl
  have h1 := h.cellAt (d := 0) (i := 0) hj (by omega)
  rw [Nat.mul_one, Nat.add_zero] at h1
  refine ⟨?_, Blk.frozen (t := 3) (cs := cs) hb _⟩
  rw [Nat.zero_add, h1]
  simp [zI, List.getD, hj]
theorem kp_putRow {α : Type} [Inhabited α] (enc : α → Value) (w : World) (g off q : Nat) (d : Array α) (os : Array Obj) : Kp (Only g) w (grow (putRow enc (Sort.ahead w q) g off d) os) := by
  refine ⟨rfl, rfl, rfl, ?_, fun k hk hs => ?_⟩
  · unfold grow putRow
    simp only [Array.size_append]
    rw [map_size]
    exact Nat.le_add_right _ _
  · unfold putRow
    rw [grow_heap _ _ (by rw [map_size]; exact hk)]
    exact map_other _ _ _ _ fun e => hs e
theorem Ow.putI (h : Ow w base 3 1 zI (.slice (some ⟨g, 0, none⟩) m c) xs) (hm : d'.length = xs.length) : Ow (grow (putRow (Value.int .i64) (Sort.ahead w q) g 0 d'.toArray) os) base 3 1 zI (.slice (some ⟨g, 0, none⟩) m c) d' := by
  rcases h.2 with ⟨h1, _⟩ | ⟨g', cap, cur, h1, hb, hg, hl, hmx, hs, ht⟩
  · cases h1
  · injection h1 with e1 e2 e3
    cases e1
    subst e2 e3
    have hlt : g < w.heap.size := (Array.getElem?_eq_some_iff.1 hg).1
    refine ⟨flat_len d', .inr ⟨g, c, putCells (Value.int .i64) 0 d'.toArray cur, by rw [hm], hb, ?_, by omega, hmx, by unfold putCells; simpa using hs, ?_⟩⟩
    · unfold putRow
      rw [grow_heap _ _ (by rw [map_size]; exact hlt)]
      exact map_same _ g _ hg
    · apply List.ext_getElem?
      intro j
      by_cases hj : j < d'.length
      · rw [List.getElem?_take_of_lt (by omega)]
        have h1 := flat_at (f := zI) (n := 1) (d := 0) d' (i := 0) hj (by omega)
        rw [Nat.mul_one, Nat.add_zero] at h1
        rw [h1, Array.getElem?_toList]
        unfold putCells
        rw [Array.getElem?_mapIdx]
        have hjc : j < cur.size := by omega
        rw [Array.getElem?_eq_getElem hjc]
        simp [hj, zI, List.getD]
      · rw [List.getElem?_eq_none (by rw [List.length_take]; omega), List.getElem?_eq_none (by rw [flat_len]; omega)]
theorem sortI_any (h : Ow w base 3 1 zI u xs) (hl : xs.length ≤ 1000000000) :
    Calls Tryz.prog 45 #[u] w fun e w' => e = .returned (.tuple #[]) ∧ Ow w' base 3 1 zI u (srtI xs) ∧ Kp (fun i => u.ownBlock = some i) w w' := by
  by_cases h0 : xs = []
  · subst h0
    obtain ⟨A, c, rfl⟩ := h.formN (m := 0) rfl
    refine Calls.mono (AnyM.slices_Sort_int_none Tryz.sortA A c w) ?_
    rintro e w' ⟨rfl, rfl⟩
    exact ⟨rfl, by have : srtI [] = [] := by simp [srtI]
                   rw [this]; exact h, Kp.refl _ _⟩
  · obtain ⟨b, c, rfl, hb, hbl, hc, hm⟩ := h.form2 (List.length_pos_iff.2 h0)
    refine Calls.mono (AnyM.slices_Sort_int Tryz.sortA b 0 c xs w h.holdsI hbl (by omega)) ?_
    rintro e w' ⟨rfl, q, os, rfl⟩
    exact ⟨rfl, h.putI (srtI_len xs), (kp_putRow _ w b 0 q _ os).mono fun i _ e => by rw [show i = b from e]; rfl⟩
theorem compactI_any (h : Ow w base 3 1 zI u xs) : Calls Tryz.prog 31 #[u] w fun e w' => (∃ A c, e = .returned (.slice A (Lib.compact xs).length c)) ∧ Kp (fun i => u.ownBlock = some i) w w' := by
  by_cases h0 : xs = []
  · subst h0
    obtain ⟨A, c, rfl⟩ := h.formN (m := 0) rfl
    refine Calls.mono (AnyG.slices_Compact_int_empty Tryz.compactA A c w) ?_
    rintro e w' ⟨rfl, rfl⟩
    exact ⟨⟨A, c, rfl⟩, Kp.refl _ _⟩
  · obtain ⟨b, c, rfl, hb, hbl, hc, hm⟩ := h.form2 (List.length_pos_iff.2 h0)
    unfold maxLen at hm
    refine Calls.mono (AnyG.slices_Compact_int Tryz.compactA b 0 c xs w h.holdsI (by omega) hc) ?_
    rintro e w' ⟨rfl, q, rfl⟩
    have := kp_putRow (Value.int .i64) w b 0 q (Lib.compact xs ++ List.replicate (xs.length - (Lib.compact xs).length) 0).toArray #[]
    rw [grow_empty] at this
    exact ⟨⟨_, _, rfl⟩, this.mono fun i _ e => by rw [show i = b from e]; rfl⟩
theorem sortedI_any {gf : Nat} {lb : Array Value} {R : Nat → Prop} (hseq : SeqO Tryz.prog gf lb (fun x : Int => #[.int .i64 x]) R xs w) (eg : ∀ args w, (callFunc gf args).run Tryz.prog w = .ok (.enter gf args) w) (hRd : ∀ k, R k → k < w.heap.size) (hl : xs.length ≤ 1000000000) :
    Calls Tryz.prog 29 #[.func (.func gf) #[] lb] w fun e w' => ∃ u, e = .returned u ∧ Ow w' w.heap.size 3 1 zI u (srtI xs) ∧ Kp No w w' := by
  have HA := hid (collectI_any hseq eg hRd hl)
  have HL := hid hl
  clear hseq hl
  go_enter Tryz.func29, Tryz.ntmps29
  go_wp2_with (first
    | (go_at_call 44
       refine HA.out.mono ?_
       rintro e w1 ⟨u, rfl, o1, k1⟩
       have R1 := hid (And.intro o1 k1)
       clear o1 k1)
    | (go_at_call 45
       refine (sortI_any R1.out.1 HL.out).mono ?_
       rintro e w2 ⟨rfl, o2, k2⟩
       have R2 := hid (And.intro o2 (R1.out.2.step k2 fun i hi e => by have := (R1.out.1.blk e).1; omega))
       clear o2 k2))
  go_ret
  exact ⟨u, rfl, R2.out⟩
/-- The values of a row of ints, as an iterator behind its box. -/
theorem Rw.seqI {P : Nat → Prop} {v : Value} (h : Rw 1 zI 0 w P v xs) (hl : xs.length ≤ 1000000000) : ∃ b, b ≤ w.heap.size ∧ SeqO Tryz.prog 46 #[.pointer (some ⟨w.heap.size, 0, none⟩)] (fun x : Int => #[.int .i64 x]) (fun k => k = w.heap.size ∨ k = b) xs (w.alloc (.cells #[v] 32)) := by
  obtain ⟨A, c, rfl, hc, hm, hx⟩ := h
  have k0 := (Kp.refl No w).alloc (.cells #[.slice A xs.length c] 32)
  have b0 := Blk.new w 32 #[.slice A xs.length c]
  have hz := World.size_alloc w (.cells #[.slice A xs.length c] 32)
  by_cases h0 : xs = []
  · subst h0
    exact ⟨w.heap.size, Nat.le_refl _, valuesI_seq w.heap.size w.heap.size 0 c A [] _ b0.lt (b0.cell 0) (fun h => by simp at h) (fun j i hj => by simp at hj) hl⟩
  · obtain ⟨b, o, rfl, hb, _, hcell⟩ := hx (List.length_pos_iff.2 h0)
    exact ⟨b, by omega, valuesI_seq w.heap.size b o c _ xs _ b0.lt (b0.cell 0) (fun _ => ⟨rfl, by omega⟩) (fun j i hj hi => (k0.cell (p := ⟨b, o + (j * 1 + i), none⟩) hb (fun e => e)).trans (hcell j i hj hi)) hl⟩
set_option maxRecDepth 100000 in
theorem twice_any {P : Nat → Prop} {v : Value} (h : Rw 1 zI 0 w P v xs) (hl : xs.length ≤ 1000000) : Calls Tryz.prog 14 #[v] w fun e w' => e = .returned (.bool (!decide xs.Nodup)) ∧ Kp No w w' := by
  have hv : v.oneCell' = true := by
    obtain ⟨A, c, rfl, _⟩ := h
    rfl
  obtain ⟨b, hb, sq⟩ := h.seqI (by omega)
  have SQ := hid sq
  have k1 := hid ((Kp.refl No w).alloc (.cells #[v] 32))
  have z1 := World.size_alloc w (.cells #[v] 32)
  have EG := hid (show ∀ args w, (callFunc 46 args).run Tryz.prog w = .ok (.enter 46 args) w from enters_of Tryz.func46 (by kernel_rfl) rfl)
  have hcmp : decide ((Lib.compact (srtI xs)).length < xs.length) = !decide xs.Nodup := by
    have h1 := compact_lt (srtI_pair xs)
    rw [srtI_len, (srtI_perm xs).nodup_iff] at h1
    rw [Bool.eq_iff_iff]
    simp only [decide_eq_true_eq, Bool.not_eq_true', decide_eq_false_iff_not]
    rw [← h1]
  have HC := hid hcmp
  obtain ⟨A, c, rfl, _⟩ := id h
  obtain ⟨n, hn⟩ : ∃ n, xs.length = n := ⟨_, rfl⟩
  have HN := hid hn
  rw [hn] at HC SQ k1 z1 ⊢
  have hnl : n ≤ 1000000 := by rw [← hn]; exact hl
  have hb' : b ≤ w.heap.size := hb
  clear h sq hcmp hn hl
  go_enter Tryz.func14, Tryz.ntmps14
  go_wp2_with (first
    | (go_at_call 30
       refine (valuesI_any _ rfl w).mono ?_
       rintro e w1 ⟨rfl, rfl⟩)
    | (go_at_call 29
       refine (sortedI_any SQ.out EG.out (fun k hk => by rw [z1]; rcases hk with rfl | rfl <;> omega) (by rw [HN.out]; omega)).mono ?_
       rintro e w2 ⟨u, rfl, o2, k2⟩
       have O2 := hid o2
       have K2 := hid (k1.out.trans k2)
       have HU := hid (show ∀ i, u.ownBlock = some i → w.heap.size ≤ i from fun i hi => by have := (o2.blk hi).1; omega)
       clear o2 k2)
    | (go_at_call 31
       refine (compactI_any O2.out).mono ?_
       rintro e w3 ⟨⟨A3, c3, rfl⟩, k3⟩
       have K3 := hid (K2.out.step k3 fun i hi e => by have := HU.out i e; omega)
       clear k3))
  go_ret
  rw [← HC.out]
  exact ⟨rfl, K3.out⟩
end
end Go.Proofs.YtggmdgdgljlddaaGreat

/-
  Contracts of isOrdered and Check.
-/
namespace Go.Proofs.YtggmdgdgljlddaaGreat
open Go.RowKit Go.Shelf

def ordB (gs : List GS) (ts : List TS) : Bool := decide (gs = orderG gs) && decide (ts = srtT ts)
set_option maxRecDepth 100000 in
set_option maxHeartbeats 1000000 in
theorem ordered_any {w : World} {P : Nat → Prop} {v : Value} {gs : List GS} {ts : List TS} (h : Sce w P v gs ts) (hl : gs.length ≤ 1000000) (hlt : ts.length ≤ 1000000) (hp : ∀ g ∈ gs, I64 g.id ∧ I64 g.par) (hnd : (gs.map (·.id)).Nodup) (hndt : (ts.map (·.id)).Nodup) :
    Calls Tryz.prog 16 #[v] w fun e w' => e = .returned (.bool (ordB gs ts)) ∧ Kp No w w' := by
  obtain ⟨vg, vt, rfl, hg, ht⟩ := id h
  have k1 := (Kp.refl No w).alloc (.cells #[vg, vt] 25)
  have b1 := Blk.new w 25 #[vg, vt]
  obtain ⟨w1, hw1⟩ : ∃ w1, w.alloc (.cells #[vg, vt] 25) = w1 := ⟨_, rfl⟩
  rw [hw1] at k1 b1
  have HO := hid (order_any (h.kp0 k1) hl hlt hp hnd hndt)
  have HG := hid (hg.kp0 k1)
  have HT := hid (ht.kp0 k1)
  have K1 := hid k1
  have B1 := hid b1
  have s0 := b1.cell 0
  have s1 := b1.cell 1
  simp only [List.getElem?_toArray, List.getElem?_cons_zero, List.getElem?_cons_succ] at s0 s1
  obtain ⟨eg, heg⟩ : ∃ eg, decide (gs = orderG gs) = eg := ⟨_, rfl⟩
  obtain ⟨et, het⟩ : ∃ et, decide (ts = srtT ts) = et := ⟨_, rfl⟩
  have HR := hid (show ordB gs ts = (eg && et) by unfold ordB; rw [heg, het])
  rw [HR.out]
  have HEG := hid heg
  have HET := hid het
  obtain ⟨A, c, rfl, _⟩ := hg
  obtain ⟨A2, c2, rfl, _⟩ := ht
  clear h k1 b1 heg het hl hlt hp hnd hndt
  cases eg
  all_goals (
    go_enter Tryz.func16, Tryz.ntmps16
    go_upto_region 1 with fail
    clear hw1
    go_wp2_with (first
      | (go_at_call 8
         refine HO.out.mono ?_
         rintro e w2 ⟨ug, ut, rfl, og, ot, k2⟩
         obtain ⟨n1, hn1⟩ : ∃ n1, (orderG gs).length = n1 := ⟨_, rfl⟩
         obtain ⟨n2, hn2⟩ : ∃ n2, (srtT ts).length = n2 := ⟨_, rfl⟩
         obtain ⟨Ag, cg, rfl⟩ := og.formN hn1
         obtain ⟨At, ct, rfl⟩ := ot.formN hn2
         have k3 := k2.alloc (.cells #[.slice Ag n1 cg, .slice At n2 ct] 25)
         have k23 := (Kp.refl No w2).alloc (.cells #[.slice Ag n1 cg, .slice At n2 ct] 25)
         have b3 := Blk.new w2 25 #[.slice Ag n1 cg, .slice At n2 ct]
         have HEQ := hid (eqlG_any (HG.out.kp0 k3) (og.kp0 k23).rwp)
         have HET2 := hid (fun q => eqlT_any ((HT.out.kp0 k3).kp0 ((Kp.refl No _).drewN q)) ((ot.kp0 k23).kp0 ((Kp.refl No _).drewN q)).rwp)
         have K3 := hid (K1.out.trans k3)
         have C1 := B1.out.kp0 k3
         have a0 := C1.cell 0
         have a1 := C1.cell 1
         have d0 := b3.cell 0
         have d1 := b3.cell 1
         simp only [List.getElem?_toArray, List.getElem?_cons_zero, List.getElem?_cons_succ] at a0 a1 d0 d1
         clear og ot k2 k3 k23 b3 C1 hn1 hn2)
      | (go_at_call 35
         refine HEQ.out.mono ?_
         rw [HEG.out]
         rintro e w4 ⟨rfl, q, rfl⟩)
      | (go_at_call 36
         refine (HET2.out q).mono ?_
         rw [HET.out]
         rintro e w5 ⟨rfl, q2, rfl⟩))
    go_ret
    exact ⟨rfl, K3.out.drewN _⟩)

open Classical in
noncomputable def ndB (l : List Int) : Bool := decide l.Nodup
/-- What is told of a scene. -/
noncomputable def checkS (gs : List GS) (ts : List TS) : Int :=
  match gs with
  | [] => 2
  | g0 :: gt =>
    if 4096 < (g0 :: gt).length ∨ 4096 < ts.length then 7
    else if (g0 :: gt).any wrongG = true ∨ ts.any wrongT = true then 1
    else if ¬ (idsOf (g0 :: gt) ts).Nodup then 9
    else if lostB g0 gt ts = true then 8
    else if ordB (g0 :: gt) ts = false then 5
    else if 16 ≤ tallG (g0 :: gt) then 10
    else 0
set_option maxRecDepth 100000 in
set_option maxHeartbeats 4000000 in
theorem zcheck_any {w : World} {P : Nat → Prop} {v : Value} {gs : List GS} {ts : List TS} (h : Sce w P v gs ts) (hp : ∀ g ∈ gs, I64 g.id ∧ I64 g.par) (hpt : ∀ t ∈ ts, I64 t.gr) :
    Calls Tryz.prog 6 #[v] w fun e w' => e = .returned (.int .i64 (checkS gs ts)) ∧ Kp No w w' := by
  obtain ⟨vg, vt, rfl, hg, ht⟩ := id h
  have k0 := (Kp.refl No w).alloc (.cells #[vg, vt] 25)
  have b1 := Blk.new w 25 #[vg, vt]
  obtain ⟨w1, hw1⟩ : ∃ w1, w.alloc (.cells #[vg, vt] 25) = w1 := ⟨_, rfl⟩
  rw [hw1] at k0 b1
  have K0 := hid k0
  have K1 := hid (Kp.refl No w1)
  have B1 := hid b1
  have h1 := h.kp0 k0
  have HG := hid (hg.kp0 k0)
  have HT := hid (ht.kp0 k0)
  have s0 := b1.cell 0
  have s1 := b1.cell 1
  simp only [List.getElem?_toArray, List.getElem?_cons_zero, List.getElem?_cons_succ] at s0 s1
  have EG := hid (show ∀ args w, (callFunc 11 args).run Tryz.prog w = .ok (.enter 11 args) w from enters_of Tryz.func11 (by kernel_rfl) rfl)
  have ET := hid (show ∀ args w, (callFunc 13 args).run Tryz.prog w = .ok (.enter 13 args) w from enters_of Tryz.func13 (by kernel_rfl) rfl)
  have hA := fun (W : World) (k : Kp No w1 W) => anyG_any (HG.out.kp0 k) wrongG 11 #[] EG.out (fun W2 x hB => (wrongG_any x W2).mono fun e w' h => ⟨h.1, below_of_kp ((kp_of_below hB).trans h.2) (Nat.le_refl _)⟩)
  have hB := fun (W : World) (k : Kp No w1 W) => anyT_any (HT.out.kp0 k) wrongT 13 #[] ET.out (fun W2 x hB => (wrongT_any x W2).mono fun e w' h => ⟨h.1, below_of_kp ((kp_of_below hB).trans h.2) (Nat.le_refl _)⟩)
  obtain ⟨A, c, rfl, _⟩ := hg
  obtain ⟨A2, c2, rfl, _⟩ := ht
  obtain ⟨n, hn⟩ : ∃ n, gs.length = n := ⟨_, rfl⟩
  obtain ⟨m, hm⟩ : ∃ m, ts.length = m := ⟨_, rfl⟩
  rw [hn] at s0 hw1 hA b1 B1 ⊢
  rw [hm] at s1 hw1 hB b1 B1 ⊢
  cases gs with
  | nil =>
    have hn : 0 = n := hn
    subst hn
    have HR := hid (show checkS [] ts = 2 from rfl)
    clear h h1 k0 b1 hA hB hp hpt
    go_enter Tryz.func6, Tryz.ntmps6
    go_upto_region 1 with fail
    clear hw1
    go_wp2_with fail
    go_ret
    exact ⟨by rw [HR.out]; rfl, K0.out⟩
  | cons g0 gt =>
    have hn0 : 0 < n := by rw [← hn]; simp
    by_cases hb1 : 4096 < n
    · have HR := hid (show checkS (g0 :: gt) ts = 7 by
        show (if 4096 < (g0 :: gt).length ∨ 4096 < ts.length then _ else _) = _
        rw [if_pos (.inl (by rw [hn]; exact hb1))])
      clear h h1 k0 b1 hA hB hp hpt hn hm HG HT
      go_enter Tryz.func6, Tryz.ntmps6
      go_upto_region 1 with fail
      clear hw1
      go_wp2_with fail
      go_ret
      exact ⟨by rw [HR.out]; rfl, K0.out⟩
    · by_cases hb2 : 4096 < m
      · have HR := hid (show checkS (g0 :: gt) ts = 7 by
          show (if 4096 < (g0 :: gt).length ∨ 4096 < ts.length then _ else _) = _
          rw [if_pos (.inr (by rw [hm]; exact hb2))])
        clear h h1 k0 b1 hA hB hp hpt hn hm HG HT
        go_enter Tryz.func6, Tryz.ntmps6
        go_upto_region 1 with fail
        clear hw1
        go_wp2_with fail
        go_ret
        exact ⟨by rw [HR.out]; rfl, K0.out⟩
      · have hc1 : checkS (g0 :: gt) ts = if (g0 :: gt).any wrongG = true ∨ ts.any wrongT = true then 1 else if ¬ (idsOf (g0 :: gt) ts).Nodup then 9 else if lostB g0 gt ts = true then 8 else if ordB (g0 :: gt) ts = false then 5 else if 16 ≤ tallG (g0 :: gt) then 10 else 0 := by
          show (if 4096 < (g0 :: gt).length ∨ 4096 < ts.length then _ else _) = _
          rw [if_neg (by rw [hn, hm]; omega)]
        have HI := hid (fun (W : World) (k : Kp No w1 W) => ids_any (h1.kp0 k) (by rw [hn]; omega) (by rw [hm]; omega))
        have HTW := hid (fun (W : World) (u : Value) (w0 : World) (o : Ow W w0.heap.size 3 1 zI u (idsOf (g0 :: gt) ts)) => twice_any (o.rwp (d := (0 : Int))) (by unfold idsOf; rw [List.length_append, List.length_map, List.length_map, hn, hm]; omega))
        have HL := hid (fun (W : World) (k : Kp No w1 W) => lost_any (h1.kp0 k) (by rw [hn]; omega) hp hpt)
        have HO' := fun (hnd : (idsOf (g0 :: gt) ts).Nodup) (W : World) (k : Kp No w1 W) => ordered_any (h1.kp0 k) (by rw [hn]; omega) (by rw [hm]; omega) hp (List.nodup_append.1 hnd).1 (List.nodup_append.1 hnd).2.1
        have HTL' := fun (hnd : (idsOf (g0 :: gt) ts).Nodup) (W : World) (k : Kp No w1 W) => tall_any (h1.kp0 k) (by rw [hn]; omega) hp (List.nodup_append.1 hnd).1
        rw [hn] at HI HL HO' HTL'
        rw [hm] at HI HL HO' HTL'
        obtain ⟨a, ha⟩ : ∃ a, (g0 :: gt).any wrongG = a := ⟨_, rfl⟩
        obtain ⟨b, hb⟩ : ∃ b, ts.any wrongT = b := ⟨_, rfl⟩
        rw [ha] at hc1 hA
        rw [hb] at hc1 hB
        have HA := hid hA
        have HB := hid hB
        obtain ⟨lo, hlo⟩ : ∃ lo, lostB g0 gt ts = lo := ⟨_, rfl⟩
        rw [hlo] at hc1 HL
        clear h h1 k0 b1 hA hB hp hpt hn hm HG HT ha hb hlo
        cases a
        · cases b
          · by_cases hnd : (idsOf (g0 :: gt) ts).Nodup
            · have HO := HO' hnd
              have HTL := HTL' hnd
              rw [decide_eq_true hnd] at HTW
              rw [if_neg (by simp), if_neg (by simpa using hnd)] at hc1
              obtain ⟨oo, hoo⟩ : ∃ oo, ordB (g0 :: gt) ts = oo := ⟨_, rfl⟩
              obtain ⟨tt, htt⟩ : ∃ tt, tallG (g0 :: gt) = tt := ⟨_, rfl⟩
              rw [hoo] at hc1 HO
              rw [htt] at hc1 HTL
              have HO := hid HO
              have HTL := hid HTL
              clear HO' HTL' hnd hoo htt
              cases lo
              · cases oo
                · rw [if_neg (by simp), if_pos rfl] at hc1
                  have HR := hid hc1
                  clear hc1
                  go_enter Tryz.func6, Tryz.ntmps6
                  go_upto_region 1 with fail
                  clear hw1
                  go_wp2_with (first
                    | (go_at_call 10
                       refine (HA.out _ K1.out).mono ?_
                       rintro e w2 ⟨rfl, k2⟩
                       have K2 := hid (K1.out.trans k2)
                       have B2 := hid (B1.out.kp0 k2)
                       have a20 := B2.out.cell 0
                       have a21 := B2.out.cell 1
                       simp only [List.getElem?_toArray, List.getElem?_cons_zero, List.getElem?_cons_succ] at a20 a21
                       clear k2)
                    | (go_at_call 12
                       refine (HB.out _ K2.out).mono ?_
                       rintro e w3 ⟨rfl, k3⟩
                       have K3 := hid (K2.out.trans k3)
                       have B3 := hid (B2.out.kp0 k3)
                       have a30 := B3.out.cell 0
                       have a31 := B3.out.cell 1
                       simp only [List.getElem?_toArray, List.getElem?_cons_zero, List.getElem?_cons_succ] at a30 a31
                       clear k3)
                    | (go_at_call 7
                       refine (HI.out _ K3.out).mono ?_
                       rintro e w4 ⟨u, rfl, o4, k4⟩
                       have O4 := hid o4
                       have K4 := hid (K3.out.trans k4)
                       have B4 := hid (B3.out.kp0 k4)
                       clear o4 k4)
                    | (go_at_call 14
                       refine (HTW.out _ _ _ O4.out).mono ?_
                       rintro e w5 ⟨rfl, k5⟩
                       have K5 := hid (K4.out.trans k5)
                       have B5 := hid (B4.out.kp0 k5)
                       have a50 := B5.out.cell 0
                       have a51 := B5.out.cell 1
                       simp only [List.getElem?_toArray, List.getElem?_cons_zero, List.getElem?_cons_succ] at a50 a51
                       clear k5)
                    | (go_at_call 15
                       refine (HL.out _ K5.out).mono ?_
                       rintro e w6 ⟨rfl, k6⟩
                       have K6 := hid (K5.out.trans k6)
                       have B6 := hid (B5.out.kp0 k6)
                       have a60 := B6.out.cell 0
                       have a61 := B6.out.cell 1
                       simp only [List.getElem?_toArray, List.getElem?_cons_zero, List.getElem?_cons_succ] at a60 a61
                       clear k6)
                    | (go_at_call 16
                       refine (HO.out _ K6.out).mono ?_
                       rintro e w7 ⟨rfl, k7⟩
                       have K7 := hid (K6.out.trans k7)
                       have B7 := hid (B6.out.kp0 k7)
                       have a70 := B7.out.cell 0
                       have a71 := B7.out.cell 1
                       simp only [List.getElem?_toArray, List.getElem?_cons_zero, List.getElem?_cons_succ] at a70 a71
                       clear k7)
                    | (go_at_call 9
                       refine (HTL.out _ K7.out).mono ?_
                       rintro e w8 ⟨rfl, k8⟩
                       have K8 := hid (K7.out.trans k8)
                       clear k8))
                  go_ret
                  exact ⟨by rw [HR.out]; rfl, (K0.out.trans K7.out)⟩
                · rw [if_neg (by simp), if_neg (by simp)] at hc1
                  by_cases h16 : 16 ≤ tt
                  · rw [if_pos h16] at hc1
                    have h16' : (16 : Int) ≤ (tt : Int) := by omega
                    have HR := hid hc1
                    clear hc1
                    go_enter Tryz.func6, Tryz.ntmps6
                    go_upto_region 1 with fail
                    clear hw1
                    go_wp2_with (first
                      | (go_at_call 10
                         refine (HA.out _ K1.out).mono ?_
                         rintro e w2 ⟨rfl, k2⟩
                         have K2 := hid (K1.out.trans k2)
                         have B2 := hid (B1.out.kp0 k2)
                         have a20 := B2.out.cell 0
                         have a21 := B2.out.cell 1
                         simp only [List.getElem?_toArray, List.getElem?_cons_zero, List.getElem?_cons_succ] at a20 a21
                         clear k2)
                      | (go_at_call 12
                         refine (HB.out _ K2.out).mono ?_
                         rintro e w3 ⟨rfl, k3⟩
                         have K3 := hid (K2.out.trans k3)
                         have B3 := hid (B2.out.kp0 k3)
                         have a30 := B3.out.cell 0
                         have a31 := B3.out.cell 1
                         simp only [List.getElem?_toArray, List.getElem?_cons_zero, List.getElem?_cons_succ] at a30 a31
                         clear k3)
                      | (go_at_call 7
                         refine (HI.out _ K3.out).mono ?_
                         rintro e w4 ⟨u, rfl, o4, k4⟩
                         have O4 := hid o4
                         have K4 := hid (K3.out.trans k4)
                         have B4 := hid (B3.out.kp0 k4)
                         clear o4 k4)
                      | (go_at_call 14
                         refine (HTW.out _ _ _ O4.out).mono ?_
                         rintro e w5 ⟨rfl, k5⟩
                         have K5 := hid (K4.out.trans k5)
                         have B5 := hid (B4.out.kp0 k5)
                         have a50 := B5.out.cell 0
                         have a51 := B5.out.cell 1
                         simp only [List.getElem?_toArray, List.getElem?_cons_zero, List.getElem?_cons_succ] at a50 a51
                         clear k5)
                      | (go_at_call 15
                         refine (HL.out _ K5.out).mono ?_
                         rintro e w6 ⟨rfl, k6⟩
                         have K6 := hid (K5.out.trans k6)
                         have B6 := hid (B5.out.kp0 k6)
                         have a60 := B6.out.cell 0
                         have a61 := B6.out.cell 1
                         simp only [List.getElem?_toArray, List.getElem?_cons_zero, List.getElem?_cons_succ] at a60 a61
                         clear k6)
                      | (go_at_call 16
                         refine (HO.out _ K6.out).mono ?_
                         rintro e w7 ⟨rfl, k7⟩
                         have K7 := hid (K6.out.trans k7)
                         have B7 := hid (B6.out.kp0 k7)
                         have a70 := B7.out.cell 0
                         have a71 := B7.out.cell 1
                         simp only [List.getElem?_toArray, List.getElem?_cons_zero, List.getElem?_cons_succ] at a70 a71
                         clear k7)
                      | (go_at_call 9
                         refine (HTL.out _ K7.out).mono ?_
                         rintro e w8 ⟨rfl, k8⟩
                         have K8 := hid (K7.out.trans k8)
                         clear k8))
                    go_ret
                    exact ⟨by rw [HR.out]; rfl, (K0.out.trans K8.out)⟩
                  · rw [if_neg h16] at hc1
                    have h16' : ¬ (16 : Int) ≤ (tt : Int) := by omega
                    have HR := hid hc1
                    clear hc1
                    go_enter Tryz.func6, Tryz.ntmps6
                    go_upto_region 1 with fail
                    clear hw1
                    go_wp2_with (first
                      | (go_at_call 10
                         refine (HA.out _ K1.out).mono ?_
                         rintro e w2 ⟨rfl, k2⟩
                         have K2 := hid (K1.out.trans k2)
                         have B2 := hid (B1.out.kp0 k2)
                         have a20 := B2.out.cell 0
                         have a21 := B2.out.cell 1
                         simp only [List.getElem?_toArray, List.getElem?_cons_zero, List.getElem?_cons_succ] at a20 a21
                         clear k2)
                      | (go_at_call 12
                         refine (HB.out _ K2.out).mono ?_
                         rintro e w3 ⟨rfl, k3⟩
                         have K3 := hid (K2.out.trans k3)
                         have B3 := hid (B2.out.kp0 k3)
                         have a30 := B3.out.cell 0
                         have a31 := B3.out.cell 1
                         simp only [List.getElem?_toArray, List.getElem?_cons_zero, List.getElem?_cons_succ] at a30 a31
                         clear k3)
                      | (go_at_call 7
                         refine (HI.out _ K3.out).mono ?_
                         rintro e w4 ⟨u, rfl, o4, k4⟩
                         have O4 := hid o4
                         have K4 := hid (K3.out.trans k4)
                         have B4 := hid (B3.out.kp0 k4)
                         clear o4 k4)
                      | (go_at_call 14
                         refine (HTW.out _ _ _ O4.out).mono ?_
                         rintro e w5 ⟨rfl, k5⟩
                         have K5 := hid (K4.out.trans k5)
                         have B5 := hid (B4.out.kp0 k5)
                         have a50 := B5.out.cell 0
                         have a51 := B5.out.cell 1
                         simp only [List.getElem?_toArray, List.getElem?_cons_zero, List.getElem?_cons_succ] at a50 a51
                         clear k5)
                      | (go_at_call 15
                         refine (HL.out _ K5.out).mono ?_
                         rintro e w6 ⟨rfl, k6⟩
                         have K6 := hid (K5.out.trans k6)
                         have B6 := hid (B5.out.kp0 k6)
                         have a60 := B6.out.cell 0
                         have a61 := B6.out.cell 1
                         simp only [List.getElem?_toArray, List.getElem?_cons_zero, List.getElem?_cons_succ] at a60 a61
                         clear k6)
                      | (go_at_call 16
                         refine (HO.out _ K6.out).mono ?_
                         rintro e w7 ⟨rfl, k7⟩
                         have K7 := hid (K6.out.trans k7)
                         have B7 := hid (B6.out.kp0 k7)
                         have a70 := B7.out.cell 0
                         have a71 := B7.out.cell 1
                         simp only [List.getElem?_toArray, List.getElem?_cons_zero, List.getElem?_cons_succ] at a70 a71
                         clear k7)
                      | (go_at_call 9
                         refine (HTL.out _ K7.out).mono ?_
                         rintro e w8 ⟨rfl, k8⟩
                         have K8 := hid (K7.out.trans k8)
                         clear k8))
                    go_ret
                    exact ⟨by rw [HR.out]; rfl, (K0.out.trans K8.out)⟩
              · rw [if_pos rfl] at hc1
                have HR := hid hc1
                clear hc1
                go_enter Tryz.func6, Tryz.ntmps6
                go_upto_region 1 with fail
                clear hw1
                go_wp2_with (first
                  | (go_at_call 10
                     refine (HA.out _ K1.out).mono ?_
                     rintro e w2 ⟨rfl, k2⟩
                     have K2 := hid (K1.out.trans k2)
                     have B2 := hid (B1.out.kp0 k2)
                     have a20 := B2.out.cell 0
                     have a21 := B2.out.cell 1
                     simp only [List.getElem?_toArray, List.getElem?_cons_zero, List.getElem?_cons_succ] at a20 a21
                     clear k2)
                  | (go_at_call 12
                     refine (HB.out _ K2.out).mono ?_
                     rintro e w3 ⟨rfl, k3⟩
                     have K3 := hid (K2.out.trans k3)
                     have B3 := hid (B2.out.kp0 k3)
                     have a30 := B3.out.cell 0
                     have a31 := B3.out.cell 1
                     simp only [List.getElem?_toArray, List.getElem?_cons_zero, List.getElem?_cons_succ] at a30 a31
                     clear k3)
                  | (go_at_call 7
                     refine (HI.out _ K3.out).mono ?_
                     rintro e w4 ⟨u, rfl, o4, k4⟩
                     have O4 := hid o4
                     have K4 := hid (K3.out.trans k4)
                     have B4 := hid (B3.out.kp0 k4)
                     clear o4 k4)
                  | (go_at_call 14
                     refine (HTW.out _ _ _ O4.out).mono ?_
                     rintro e w5 ⟨rfl, k5⟩
                     have K5 := hid (K4.out.trans k5)
                     have B5 := hid (B4.out.kp0 k5)
                     have a50 := B5.out.cell 0
                     have a51 := B5.out.cell 1
                     simp only [List.getElem?_toArray, List.getElem?_cons_zero, List.getElem?_cons_succ] at a50 a51
                     clear k5)
                  | (go_at_call 15
                     refine (HL.out _ K5.out).mono ?_
                     rintro e w6 ⟨rfl, k6⟩
                     have K6 := hid (K5.out.trans k6)
                     have B6 := hid (B5.out.kp0 k6)
                     have a60 := B6.out.cell 0
                     have a61 := B6.out.cell 1
                     simp only [List.getElem?_toArray, List.getElem?_cons_zero, List.getElem?_cons_succ] at a60 a61
                     clear k6)
                  | (go_at_call 16
                     refine (HO.out _ K6.out).mono ?_
                     rintro e w7 ⟨rfl, k7⟩
                     have K7 := hid (K6.out.trans k7)
                     have B7 := hid (B6.out.kp0 k7)
                     have a70 := B7.out.cell 0
                     have a71 := B7.out.cell 1
                     simp only [List.getElem?_toArray, List.getElem?_cons_zero, List.getElem?_cons_succ] at a70 a71
                     clear k7)
                  | (go_at_call 9
                     refine (HTL.out _ K7.out).mono ?_
                     rintro e w8 ⟨rfl, k8⟩
                     have K8 := hid (K7.out.trans k8)
                     clear k8))
                go_ret
                exact ⟨by rw [HR.out]; rfl, (K0.out.trans K6.out)⟩
            · rw [decide_eq_false hnd] at HTW
              rw [if_neg (by simp), if_pos (by simpa using hnd)] at hc1
              have HR := hid hc1
              clear HO' HTL' hnd hc1
              go_enter Tryz.func6, Tryz.ntmps6
              go_upto_region 1 with fail
              clear hw1
              go_wp2_with (first
                | (go_at_call 10
                   refine (HA.out _ K1.out).mono ?_
                   rintro e w2 ⟨rfl, k2⟩
                   have K2 := hid (K1.out.trans k2)
                   have B2 := hid (B1.out.kp0 k2)
                   have a20 := B2.out.cell 0
                   have a21 := B2.out.cell 1
                   simp only [List.getElem?_toArray, List.getElem?_cons_zero, List.getElem?_cons_succ] at a20 a21
                   clear k2)
                | (go_at_call 12
                   refine (HB.out _ K2.out).mono ?_
                   rintro e w3 ⟨rfl, k3⟩
                   have K3 := hid (K2.out.trans k3)
                   have B3 := hid (B2.out.kp0 k3)
                   have a30 := B3.out.cell 0
                   have a31 := B3.out.cell 1
                   simp only [List.getElem?_toArray, List.getElem?_cons_zero, List.getElem?_cons_succ] at a30 a31
                   clear k3)
                | (go_at_call 7
                   refine (HI.out _ K3.out).mono ?_
                   rintro e w4 ⟨u, rfl, o4, k4⟩
                   have O4 := hid o4
                   have K4 := hid (K3.out.trans k4)
                   have B4 := hid (B3.out.kp0 k4)
                   clear o4 k4)
                | (go_at_call 14
                   refine (HTW.out _ _ _ O4.out).mono ?_
                   rintro e w5 ⟨rfl, k5⟩
                   have K5 := hid (K4.out.trans k5)
                   have B5 := hid (B4.out.kp0 k5)
                   have a50 := B5.out.cell 0
                   have a51 := B5.out.cell 1
                   simp only [List.getElem?_toArray, List.getElem?_cons_zero, List.getElem?_cons_succ] at a50 a51
                   clear k5)
                | (go_at_call 15
                   refine (HL.out _ K5.out).mono ?_
                   rintro e w6 ⟨rfl, k6⟩
                   have K6 := hid (K5.out.trans k6)
                   have B6 := hid (B5.out.kp0 k6)
                   have a60 := B6.out.cell 0
                   have a61 := B6.out.cell 1
                   simp only [List.getElem?_toArray, List.getElem?_cons_zero, List.getElem?_cons_succ] at a60 a61
                   clear k6)
                | (go_at_call 16
                   refine (HO.out _ K6.out).mono ?_
                   rintro e w7 ⟨rfl, k7⟩
                   have K7 := hid (K6.out.trans k7)
                   have B7 := hid (B6.out.kp0 k7)
                   have a70 := B7.out.cell 0
                   have a71 := B7.out.cell 1
                   simp only [List.getElem?_toArray, List.getElem?_cons_zero, List.getElem?_cons_succ] at a70 a71
                   clear k7)
                | (go_at_call 9
                   refine (HTL.out _ K7.out).mono ?_
                   rintro e w8 ⟨rfl, k8⟩
                   have K8 := hid (K7.out.trans k8)
                   clear k8))
              go_ret
              exact ⟨by rw [HR.out]; rfl, (K0.out.trans K5.out)⟩
          · rw [if_pos (by simp)] at hc1
            have HR := hid hc1
            clear HO' HTL' hc1
            go_enter Tryz.func6, Tryz.ntmps6
            go_upto_region 1 with fail
            clear hw1
            go_wp2_with (first
              | (go_at_call 10
                 refine (HA.out _ K1.out).mono ?_
                 rintro e w2 ⟨rfl, k2⟩
                 have K2 := hid (K1.out.trans k2)
                 have B2 := hid (B1.out.kp0 k2)
                 have a20 := B2.out.cell 0
                 have a21 := B2.out.cell 1
                 simp only [List.getElem?_toArray, List.getElem?_cons_zero, List.getElem?_cons_succ] at a20 a21
                 clear k2)
              | (go_at_call 12
                 refine (HB.out _ K2.out).mono ?_
                 rintro e w3 ⟨rfl, k3⟩
                 have K3 := hid (K2.out.trans k3)
                 have B3 := hid (B2.out.kp0 k3)
                 have a30 := B3.out.cell 0
                 have a31 := B3.out.cell 1
                 simp only [List.getElem?_toArray, List.getElem?_cons_zero, List.getElem?_cons_succ] at a30 a31
                 clear k3)
              | (go_at_call 7
                 refine (HI.out _ K3.out).mono ?_
                 rintro e w4 ⟨u, rfl, o4, k4⟩
                 have O4 := hid o4
                 have K4 := hid (K3.out.trans k4)
                 have B4 := hid (B3.out.kp0 k4)
                 clear o4 k4)
              | (go_at_call 14
                 refine (HTW.out _ _ _ O4.out).mono ?_
                 rintro e w5 ⟨rfl, k5⟩
                 have K5 := hid (K4.out.trans k5)
                 have B5 := hid (B4.out.kp0 k5)
                 have a50 := B5.out.cell 0
                 have a51 := B5.out.cell 1
                 simp only [List.getElem?_toArray, List.getElem?_cons_zero, List.getElem?_cons_succ] at a50 a51
                 clear k5)
              | (go_at_call 15
                 refine (HL.out _ K5.out).mono ?_
                 rintro e w6 ⟨rfl, k6⟩
                 have K6 := hid (K5.out.trans k6)
                 have B6 := hid (B5.out.kp0 k6)
                 have a60 := B6.out.cell 0
                 have a61 := B6.out.cell 1
                 simp only [List.getElem?_toArray, List.getElem?_cons_zero, List.getElem?_cons_succ] at a60 a61
                 clear k6)
              | (go_at_call 16
                 refine (HO.out _ K6.out).mono ?_
                 rintro e w7 ⟨rfl, k7⟩
                 have K7 := hid (K6.out.trans k7)
                 have B7 := hid (B6.out.kp0 k7)
                 have a70 := B7.out.cell 0
                 have a71 := B7.out.cell 1
                 simp only [List.getElem?_toArray, List.getElem?_cons_zero, List.getElem?_cons_succ] at a70 a71
                 clear k7)
              | (go_at_call 9
                 refine (HTL.out _ K7.out).mono ?_
                 rintro e w8 ⟨rfl, k8⟩
                 have K8 := hid (K7.out.trans k8)
                 clear k8))
            go_ret
            exact ⟨by rw [HR.out]; rfl, (K0.out.trans K3.out)⟩
        · rw [if_pos (by simp)] at hc1
          have HR := hid hc1
          clear HO' HTL' hc1
          go_enter Tryz.func6, Tryz.ntmps6
          go_upto_region 1 with fail
          clear hw1
          go_wp2_with (first
            | (go_at_call 10
               refine (HA.out _ K1.out).mono ?_
               rintro e w2 ⟨rfl, k2⟩
               have K2 := hid (K1.out.trans k2)
               have B2 := hid (B1.out.kp0 k2)
               have a20 := B2.out.cell 0
               have a21 := B2.out.cell 1
               simp only [List.getElem?_toArray, List.getElem?_cons_zero, List.getElem?_cons_succ] at a20 a21
               clear k2)
            | (go_at_call 12
               refine (HB.out _ K2.out).mono ?_
               rintro e w3 ⟨rfl, k3⟩
               have K3 := hid (K2.out.trans k3)
               have B3 := hid (B2.out.kp0 k3)
               have a30 := B3.out.cell 0
               have a31 := B3.out.cell 1
               simp only [List.getElem?_toArray, List.getElem?_cons_zero, List.getElem?_cons_succ] at a30 a31
               clear k3)
            | (go_at_call 7
               refine (HI.out _ K3.out).mono ?_
               rintro e w4 ⟨u, rfl, o4, k4⟩
               have O4 := hid o4
               have K4 := hid (K3.out.trans k4)
               have B4 := hid (B3.out.kp0 k4)
               clear o4 k4)
            | (go_at_call 14
               refine (HTW.out _ _ _ O4.out).mono ?_
               rintro e w5 ⟨rfl, k5⟩
               have K5 := hid (K4.out.trans k5)
               have B5 := hid (B4.out.kp0 k5)
               have a50 := B5.out.cell 0
               have a51 := B5.out.cell 1
               simp only [List.getElem?_toArray, List.getElem?_cons_zero, List.getElem?_cons_succ] at a50 a51
               clear k5)
            | (go_at_call 15
               refine (HL.out _ K5.out).mono ?_
               rintro e w6 ⟨rfl, k6⟩
               have K6 := hid (K5.out.trans k6)
               have B6 := hid (B5.out.kp0 k6)
               have a60 := B6.out.cell 0
               have a61 := B6.out.cell 1
               simp only [List.getElem?_toArray, List.getElem?_cons_zero, List.getElem?_cons_succ] at a60 a61
               clear k6)
            | (go_at_call 16
               refine (HO.out _ K6.out).mono ?_
               rintro e w7 ⟨rfl, k7⟩
               have K7 := hid (K6.out.trans k7)
               have B7 := hid (B6.out.kp0 k7)
               have a70 := B7.out.cell 0
               have a71 := B7.out.cell 1
               simp only [List.getElem?_toArray, List.getElem?_cons_zero, List.getElem?_cons_succ] at a70 a71
               clear k7)
            | (go_at_call 9
               refine (HTL.out _ K7.out).mono ?_
               rintro e w8 ⟨rfl, k8⟩
               have K8 := hid (K7.out.trans k8)
               clear k8))
          go_ret
          exact ⟨by rw [HR.out]; rfl, (K0.out.trans K2.out)⟩
end Go.Proofs.YtggmdgdgljlddaaGreat

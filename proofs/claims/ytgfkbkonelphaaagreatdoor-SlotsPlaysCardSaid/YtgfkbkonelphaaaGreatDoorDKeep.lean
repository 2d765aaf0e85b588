/-
  Contract of disk's keepAll: a range over a map that is deleted from, in whatever order; Flush.
-/
import Derived.Test.YtgfkbkonelphaaaGreatDoorDWr
import Derived.Test.YtgfkbkonelphaaaGreatDoorDN
import Derived.Maps.RangeWalk
import Derived.Lib.SlKeysI
namespace Go.Proofs.YtgfkbkonelphaaaGreatDoor
open Go.RowKit

/-- What is kept once those that wait no more are. -/
def keptBy (s : Ds) (wt : Int → Bool) : List (List Int) := s.k.mapIdx fun j l => if wt (j : Int) then l else (s.c (j : Int)).getD l
def kept (s : Ds) : List (List Int) := s.k.mapIdx fun j l => (s.c (j : Int)).getD l
def flushed (s : Ds) : Ds := { s with k := kept s, c := fun _ => none }
theorem kept_len (s : Ds) : (kept s).length = s.k.length := by simp [kept]
theorem keptBy_len (s : Ds) (wt : Int → Bool) : (keptBy s wt).length = s.k.length := by simp [keptBy]
theorem keptBy_at (s : Ds) (wt : Int → Bool) {j : Nat} (hj : j < s.k.length) : (keptBy s wt).getD j [] = if wt (j : Int) then s.k.getD j [] else (s.c (j : Int)).getD (s.k.getD j []) := by
  simp [keptBy, List.getD, hj]
theorem kept_at (s : Ds) {j : Nat} (hj : j < s.k.length) : (kept s).getD j [] = look s j := by
  simp [kept, look, List.getD, hj]
theorem keptBy_start {s : Ds} {wt : Int → Bool} (h : ∀ k, wt k = (s.c k).isSome) : keptBy s wt = s.k := by
  refine List.ext_getElem (keptBy_len s wt) fun j h1 h2 => ?_
  simp only [keptBy, List.getElem_mapIdx, h]
  cases s.c (j : Int) <;> rfl
theorem keptBy_end {s : Ds} {wt : Int → Bool} (h : ∀ k, wt k = false) : keptBy s wt = kept s := by
  unfold keptBy kept
  simp [h]
theorem keptBy_set {s : Ds} {wt wt' : Int → Bool} {j : Nat} {l : List Int} (hc : s.c (j : Int) = some l) (h0 : wt' (j : Int) = false) (h : ∀ k, k ≠ (j : Int) → wt' k = wt k) : (keptBy s wt).set j l = keptBy s wt' := by
  refine List.ext_getElem (by simp [keptBy]) fun i h1 h2 => ?_
  rw [List.getElem_set]
  by_cases e : j = i
  · subst e
    rw [if_pos rfl]
    simp [keptBy, h0, hc]
  · rw [if_neg e]
    simp only [keptBy, List.getElem_mapIdx]
    rw [h (i : Int) (by omega)]
theorem kept_ok {s : Ds} (h : DOk s) : DOk (flushed s) :=
  ⟨by show (kept s).length ≤ 512; rw [kept_len]; exact h.len, fun l hl => by
    have hl : l ∈ kept s := hl
    obtain ⟨j, hj, rfl⟩ := List.getElem_of_mem hl
    rw [kept_len] at hj
    have := look_sec h hj
    rwa [← kept_at s hj, List.getD_eq_getElem?_getD, List.getElem?_eq_getElem (by rw [kept_len]; exact hj)] at this, fun i l h => (by cases h), h.l0, h.l1⟩

section
variable {H : Type} {P : Program} {k : TypeId} {R : Value → Option (DataW H × List MemPlace)} {w w' : World} {b r n : Nat} {D : DataW H} {left : Lit → Bool} {cn : Nat} {S : Nat → Prop}
theorem ranges_kp (h : w.ranges P k R b r n D left cn) (kk : Kp S w w') (h1 : ¬ S b) (h2 : ¬ S r) : w'.ranges P k R b r n D left cn := by
  have g1 := h.owns.lt
  have g2 := h.lt
  obtain ⟨es, clock, since, seen, c0, hb, F, hs, hD, hr, rest⟩ := h
  exact ⟨es, clock, since, seen, c0, (kk.block b g1 h1).trans hb, F, hs, hD, (kk.block r g2 h2).trans hr, rest⟩
end

section
variable {ops : Array Oper} {rest : List Oper} {o : Oper} {a : Act} {w w' : World} {Q : Exit → Act → World → Prop} {g b m : Nat} {s : Ds}
theorem RV_inv (v : Value) (y : DataW Unit × List MemPlace) (h : RV sev senc v = some y) : ∃ c, v = sev c := by
  unfold RV at h
  split at h
  · rename_i hx
    exact ⟨hx.choose, hx.choose_spec.symm⟩
  · cases h
/-- A sector laid whole into what is kept. -/
theorem wp_put57 (hg : o.guard = none) (x y : Operand) (ho : o.op = .store 85 x y) {b j : Nat} {ks : List (List Int)} {l : List Int} (hx : a.eval x = .pointer (some ⟨b, j * 64, none⟩)) (hy : a.eval y = sev l) (hb : Kt 85 w b ks) (hj : j < ks.length) (hl : l.length = 64)
    (h : ∀ w', Kt 85 w' b (ks.set j l) → Kp (Only b) w w' → w'.heap.size = w.heap.size → wpList Tryz.prog ops Q rest (a.put o.dst undef) w') : wpList Tryz.prog ops Q (o :: rest) a w := by
  refine wpList_store_mid hg _ x y ho b (j * 64) (sc l).toArray hx hy (fun i hi => hb.there hj i (by rw [List.size_toArray, sc_len, hl] at hi; exact hi)) (dS' hl) (all_oneCell_toArray (sc_one l)) ?_
  rw [List.toList_toArray]
  exact h _ (hb.put l hl hj) (Kp.puts (S := Only b) (g := b) (.inl rfl) _ _ _ (Kp.refl (Only b) w)) (size_setCells _ _ _ _)

/-- What the map and the kept ones are while keepAll goes on. -/
structure Keeping (s : Ds) (b : Nat) (D : DataW Unit) (left : Lit → Bool) (wr : World) : Prop where
  same : ∀ k : Int, left (.int .i64 k) = Maps.has D (.int .i64 k)
  elem : ∀ k : Int, Maps.has D (.int .i64 k) = true → ∃ l, s.c k = some l ∧ ∀ y, D.atKey (.int .i64 k) y = senc l
  kt : Kt 85 wr b (keptBy s fun k => Maps.has D (.int .i64 k))
theorem Keeping.kp {D : DataW Unit} {left : Lit → Bool} {S : Nat → Prop} (h : Keeping s b D left w) (k : Kp S w w') (hn : ¬ S b) : Keeping s b D left w' := ⟨h.same, h.elem, h.kt.kp k hn⟩

theorem Dk.keeping (h : Dk w g b m s) : ∃ D, w.ownsMap Tryz.prog 3 (RV sev senc) m (cnt s.c s.k.length) D ∧ Keeping s b D (Maps.has D) w := by
  obtain ⟨D, h1, h2, h3, h4⟩ := h.mp
  refine ⟨D, h1, fun _ => rfl, fun k hk => ?_, ?_⟩
  · rw [h3] at hk
    obtain ⟨l, hl⟩ := Option.isSome_iff_exists.1 hk
    exact ⟨l, hl, h4 k l hl⟩
  · rw [keptBy_start h3]
    exact h.kt

theorem Keeping.step {D : DataW Unit} {left : Lit → Bool} (h : Keeping s b D left w) {j : Nat} {l : List Int} (hc : s.c (j : Int) = some l) (hkt : Kt 85 w' b ((keptBy s fun k => Maps.has D (.int .i64 k)).set j l)) :
    Keeping s b (D.del (.int .i64 (j : Int))) (fun z => left z && !z.sameKey (.int .i64 (j : Int))) w' := by
  have hd : ∀ k : Int, k ≠ (j : Int) → Maps.has (D.del (.int .i64 (j : Int))) (.int .i64 k) = Maps.has D (.int .i64 k) := fun k hk => Maps.has_del_other (by simpa using hk)
  refine ⟨fun k => ?_, fun k hk => ?_, ?_⟩
  · by_cases e : k = (j : Int)
    · subst e
      rw [Maps.has_del_same]
      simp [Lit.sameKey]
    · rw [hd k e, ← h.same]
      simp [Lit.sameKey, e]
  · by_cases e : k = (j : Int)
    · subst e
      rw [Maps.has_del_same] at hk
      cases hk
    · rw [hd k e] at hk
      obtain ⟨l', h1, h2⟩ := h.elem k hk
      exact ⟨l', h1, fun y => by rw [Maps.atKey_del_other (by simpa using e)]; exact h2 y⟩
  · rw [keptBy_set hc Maps.has_del_same hd] at hkt
    exact hkt

/-- At the end. -/
theorem Keeping.done {D : DataW Unit} {left : Lit → Bool} {r n cn : Nat} (h : Keeping s b D left w) (hr : w.ranges Tryz.prog 3 (RV sev senc) m r n D left cn) (hl : ∀ kl, left kl = false) : Mk Tryz.prog 3 sev senc w m (fun _ => none) 0 ∧ Kt 85 w b (kept s) := by
  have hn : ∀ k : Int, Maps.has D (.int .i64 k) = false := fun k => by rw [← h.same, hl]
  have hown := hr.owns
  refine ⟨⟨D, ?_⟩, ?_⟩
  · obtain ⟨es, rfl, hko⟩ := hown.keysOf
    have he : es = [] := by
      rcases es with _ | ⟨p, es⟩
      · rfl
      · exfalso
        obtain ⟨v, hv⟩ := hko p (by simp)
        obtain ⟨x, _, hx, _⟩ := Maps.keyOf_i64 dK.key hv
        have := hn x
        simp [Maps.has, hx, Lit.sameKey] at this
    subst he
    exact ⟨ownsMap_tight hown rfl, rfl, fun k => by rw [hn]; rfl, fun k a h => by cases h⟩
  · have := h.kt
    rwa [keptBy_end hn] at this

/-- The range's step. -/
theorem wp_next57 (hg : o.guard = none) (it : Operand) (hop : o.op = Op.next it false) {D : DataW Unit} {left : Lit → Bool} {r n cn : Nat} (hit : a.eval it = .pointer (some ⟨r, 0, none⟩)) (h : w.ranges Tryz.prog 3 (RV sev senc) m r n D left cn) (hK : Keeping s b D left w) (hok : DOk s)
    (hDone : (∀ kl, left kl = false) → wpList Tryz.prog ops Q rest (a.put o.dst (.tuple #[.bool false])) w)
    (hMore : ∀ (j : Nat) (l : List Int) (w1 : World) (cn1 : Nat), j < s.k.length → Hid (s.c (j : Int) = some l) → Hid (l.length = 64) → Hid (w1.ranges Tryz.prog 3 (RV sev senc) m r n D (fun z => left z && !z.sameKey (.int .i64 (j : Int))) cn1) → Hid (cn1 < cn) → Hid (Kp (Only r) w w1) → w1.heap.size = w.heap.size →
      (Instr.entry (.pointer (some ⟨r, 0, none⟩))).run Tryz.prog w1 = .ok (.tuple #[.int .i64 (j : Int), sev l]) w1 → wpList Tryz.prog ops Q rest (a.put o.dst (.tuple #[.bool true, .int .i64 (j : Int), sev l])) w1) : wpList Tryz.prog ops Q (o :: rest) a w := by
  refine wpList_next_ranges w hg it hop 3 dK.keyed (RV sev senc) (Value.int .i64) sev (fun key kl hkey => by obtain ⟨x, rfl, _⟩ := Maps.keyOf_int_inv dK.key hkey; exact ⟨x, rfl⟩) RV_inv m r n _ _ _ hit h (fun _ hl0 => hDone hl0) (fun x c kl y w1 cn1 hkey hlk hR hat hrg1 hlt hg1 hs1 hen => ?_)
  obtain ⟨x', hx', rfl, hwx⟩ := Maps.keyOf_int_inv dK.key hkey
  cases hx'
  have hhas : Maps.has D (.int .i64 x) = true := by rw [← hK.same]; exact hlk
  obtain ⟨l, hc, hat'⟩ := hK.elem x hhas
  obtain ⟨x0, x1, hsec⟩ := hok.key x l hc
  obtain ⟨j, rfl⟩ : ∃ j : Nat, x = (j : Int) := ⟨x.toNat, by omega⟩
  rw [RV_ev dK] at hR
  have hcl : c = l := by
    have h1 := hat (senc zs)
    rw [hat', ← Option.some.inj hR] at h1
    exact (senc_inj _ _ h1).symm
  subst hcl
  exact hMore j c w1 cn1 (by omega) (hid hc) (hid hsec.len) (hid hrg1) (hid hlt) (hid ((Kp.refl (Only r) w).grown hg1 fun k e => by cases e; exact .inl rfl)) hs1 hen

set_option maxHeartbeats 1000000 in
set_option maxRecDepth 100000 in
theorem keepAll_any (h : Dk w g b m s) : Calls Tryz.prog 42 #[.pointer (some ⟨g, 0, none⟩)] w fun e w' => (∃ v, e = .returned v) ∧ Kp (fun k => k = b ∨ k = m) w w' ∧ Dk w' g b m (flushed s) := by
  obtain ⟨D, hown, hk⟩ := h.keeping
  have hA := h.lts
  have hlen := h.ok.len
  have c1 := h.hd.cell 1
  simp at c1
  have O := hid h
  have HK := hid hk
  clear h hk
  go_enter Tryz.func42, Tryz.ntmps42
  go_wp2_with (at_range; refine wpList_range_own _ rfl _ 60 rfl 3 85 dK.keyed dK.und _ m _ _ rfl hown ?_; intro w0 hrg0 hg0 hs0)
  go_frame
  have k0 := hid ((Kp.refl No w).grown hg0 fun k e => by cases e)
  obtain ⟨r, hr⟩ : ∃ r, w.heap.size = r := ⟨_, rfl⟩
  rw [hr] at hrg0 hA
  simp only [hr]
  go_loopw [2] (fun _ wr => ∃ D' left cn, wr.ranges Tryz.prog 3 (RV sev senc) m r (cnt s.c s.k.length) D' left cn ∧ Hid (Keeping s b D' left wr) ∧ Hid (Kp (fun k => k = b ∨ k = m) w wr) ∧ r < wr.heap.size) (fun _ wr => wr.rangeLeft m r)
  case atStart => exact ⟨D, _, _, hrg0, hid (HK.out.kp k0.out (fun h => h)), hid k0.out.all, by omega⟩
  case round =>
    obtain ⟨D', left, cn, hrg, hK, hKp, hrl⟩ := hrel
    go_wp2_with (first
      | (at_next; refine wp_next57 rfl _ rfl rfl hrg hK.out O.out.ok (fun hl0 => ?_) (fun j l w1 cn1 hj hc hl hrg1 hlt k1 z1 hen => ?_))
      | (refine wp_new57 rfl rfl ?_; intro w2 b2 k2 z2; rw [z1] at b2 z2)
      | (refine wp_lay57 rfl _ _ rfl rfl rfl b2 sc_zs_size hl.out ?_; intro w3 b3 k3 z3))
    · obtain ⟨m1, t1⟩ := hK.out.done hrg hl0
      refine bodyPost_end (results_none rfl _ _ _) rfl ⟨⟨_, rfl⟩, hKp.out, ?_⟩
      exact ⟨by
        have := O.out.hd.kp hKp.out (fun e => e.elim O.out.gb O.out.gm)
        rwa [← kept_len s] at this, t1, by
        show Mk _ _ _ _ wr m (fun _ => none) (cnt (fun _ => none) (kept s).length)
        rw [cnt_none]
        exact m1, O.out.gb, O.out.gm, O.out.bm, kept_ok O.out.ok⟩
    · have hbr : b < r := hA.2.1
      have hmr : m < r := hA.2.2
      have hgr : g < r := hA.1
      have KK := hid (((hK.out.kp k1.out (fun e => by have : b = r := e; omega)).kp k2 (fun h => h)).kp k3 (fun e => by have : b = wr.heap.size := e; omega))
      have KP := hid (((hKp.out.step k1.out fun i hi e => by have : i = r := e; omega).trans k2.all).step k3 fun i hi e => by have : i = wr.heap.size := e; have := hKp.out.size; omega)
      have R3 := hid (ranges_kp (ranges_kp hrg1.out k2 (fun h => h) fun h => h) k3 (fun e => by have : m = wr.heap.size := e; omega) fun e => by have : r = wr.heap.size := e; omega)
      have HD := hid (O.out.hd.kp KP.out fun e => e.elim O.out.gb O.out.gm)
      have hr3 : r < w3.heap.size := by omega
      have hb3 := k3.size
      have c0 := HD.out.cell 0
      simp at c0
      have hjl := hj
      have hme := hid hrg.left_eq
      rw [← keptBy_len s (fun k => Maps.has D' (.int .i64 k))] at hjl
      clear hrg hrg1 hK hKp k1 k2 k3 b2 hen hown c1
      refine region_tail 7 (by kernel_rfl) (by kernel_rfl) ?_
      simp only [List.take_succ_cons, List.take_zero, List.drop_succ_cons, List.drop_zero, Act.put]
      repeat (first | refine still_get57 rfl _ rfl rfl b3 hl.out ?_ | still_step)
      refine wpStill_nil ?_
      refine wp_put57 rfl _ _ rfl rfl rfl (KK.out.kt.kp ((Kp.refl No w3).drew) fun h => h) hjl hl.out ?_
      intro w4 t4 k4 z4
      have k4 := hid ((Kp.refl (Only b) w3).drew.trans k4)
      have HD4 := hid (HD.out.kp k4.out fun e => O.out.gb e)
      have R4 := hid (ranges_kp R3.out k4.out (fun e => O.out.bm (Eq.symm e)) fun e => by have : r = b := e; omega)
      have c1 := HD4.out.cell 1
      simp at c1
      clear c0 b3
      go_wp2_with (refine wpList_delete_ranges _ rfl _ _ 60 3 rfl 85 dK.keyed dK.und (RV sev senc) m r _ _ _ _ rfl R4.out (.int .i64 (j : Int)) _ rfl (dK.keyOf (by unfold I64; omega)) ?_; intro w5 cn2 hrg5 hle5 hturn)
      have k5 := (Kp.refl (Only m) w4).grown hturn.grown fun k e => by cases e; exact .inl rfl
      have KK5 := hid ((KK.out.step hc.out t4).kp k5 fun e => O.out.bm e)
      have KP5 := hid ((KP.out.step k4.out fun i _ e => .inl e).step k5 fun i _ e => .inr e)
      have h5 := k5.size
      have h4 := k4.out.size
      rw [Maps.strike_twice] at hrg5
      have hm5 := hid (show w5.rangeLeft m r < wr.rangeLeft m r by
        rw [hrg5.left_eq, hme.out]
        have := hlt.out
        omega)
      go_frame
      go_roundw
      case rel => exact ⟨_, _, cn2, hrg5, KK5, KP5, by omega⟩
      case measure => exact hm5.out

/-- Behind a flush. -/
theorem flush_off (h : Dk w g b m s) (ho : off s = true) : Calls Tryz.prog 58 #[.pointer (some ⟨g, 0, none⟩)] w fun e w' => e = .returned (.int .i64 19) ∧ Kp (Only g) w w' ∧ Dk w' g b m (calld s) := by
  go_enter Tryz.func58, Tryz.ntmps58
  go_wp2_with fail
  refine (call_any h).mono ?_
  rintro e w1 ⟨rfl, k1, D1, z1⟩
  rw [ho]
  go_wp2
  go_ret
  exact ⟨rfl, k1, D1⟩
theorem flush_is (h : Dk w g b m s) (ho : off s = false) : Calls Tryz.prog 58 #[.pointer (some ⟨g, 0, none⟩)] w fun e w' => e = .returned (.int .i64 0) ∧ Kp (DB g b m) w w' ∧ Dk w' g b m (flushed (calld s)) := by
  go_enter Tryz.func58, Tryz.ntmps58
  go_wp2_with fail
  refine (call_any h).mono ?_
  rintro e w1 ⟨rfl, k1, D1, z1⟩
  rw [ho]
  go_wp2_with fail
  refine (keepAll_any D1).mono ?_
  rintro e w2 ⟨⟨v, rfl⟩, k2, D2⟩
  go_wp2
  go_ret
  exact ⟨rfl, (k1.mono (T := DB g b m) fun k _ e => .inl e).step k2 fun i _ e => e.elim (fun e => .inr (.inl e)) fun e => .inr (.inr e), D2⟩
end
end Go.Proofs.YtgfkbkonelphaaaGreatDoor

/-
  Contract of the program's readBodies.
-/
import Derived.Test.YthhikjgaljkfpaaDoorPF
import Derived.Deep.RegionHeld3
namespace Go.Proofs.YthhikjgaljkfpaaDoor
open Go.RowKit

theorem risen_kinds_eq : ∀ (ss : List Sv) (es : List En) (last : Int), 0 ≤ last → ss.map Sv.k = es.map En.k → (∀ s ∈ ss, s.k ≤ 255) → risen last (ss.map sn) = kinds last es
  | [], [], _, _, _, _ => rfl
  | [], _ :: _, _, _, h, _ => by simp at h
  | _ :: _, [], _, _, h, _ => by simp at h
  | s :: ss, e :: es, last, h0, h, hb => by
    simp only [List.map_cons, List.cons.injEq] at h
    have hs := hb s (List.mem_cons_self ..)
    rw [List.map_cons, risen, kinds]
    have e1 : (sn s).kind = s.k := rfl
    rw [e1, ← h.1]
    by_cases hl : last < s.k
    · rw [decide_eq_true (show 1 ≤ s.k by omega), decide_eq_true hs, decide_eq_true hl, Bool.true_and, Bool.true_and]
      rw [risen_kinds_eq ss es s.k (by omega) h.2 fun x hx => hb x (List.mem_cons_of_mem _ hx)]
    · rw [decide_eq_false hl, Bool.and_false, Bool.false_and, Bool.false_and]
/-- The bytes that are read as a body. -/
def bodAt (xs : List Int) (m j : Nat) : List Int := ((xs.drop (13 + 7 * m)).drop (total (ents xs j))).take (entAt xs j).n
/-- How far the reader is. -/
def RdSt (xs : List Int) (m k : Nat) (ss : List Sv) (rest : List Int) (e : Int) : Prop :=
  (e = 0 ∧ total (ents xs k) ≤ (xs.drop (13 + 7 * m)).length ∧ rest = (xs.drop (13 + 7 * m)).drop (total (ents xs k)) ∧ ∀ j, j < k → (ss.getD j sv0).bl = bodAt xs m j) ∨
  (e = 2 ∧ (xs.drop (13 + 7 * m)).length < total (ents xs k))
theorem RdSt.step {xs : List Int} {m k : Nat} {ss : List Sv} {rest : List Int} {e : Int} (h : RdSt xs m k ss rest e) (hl : ss.length = k) (s : Sv) (hb : s.bl = nxP rest e ((entAt xs k).n : Int)) :
    RdSt xs m (k + 1) (ss ++ [s]) (nxR rest e ((entAt xs k).n : Int)) (nxE rest e ((entAt xs k).n : Int)) := by
  have ht : total (ents xs (k + 1)) = total (ents xs k) + (entAt xs k).n := by rw [ents_snoc, total_snoc]
  rcases h with ⟨rfl, h1, rfl, h3⟩ | ⟨rfl, h1⟩
  · by_cases hn : (entAt xs k).n ≤ ((xs.drop (13 + 7 * m)).drop (total (ents xs k))).length
    · obtain ⟨e1, e2, e3⟩ := nx_ok hn
      rw [List.length_drop] at hn
      refine .inl ⟨e3, by omega, ?_, fun j hj => ?_⟩
      · rw [e2, List.drop_drop, ht]
      · by_cases hjk : j < k
        · rw [← h3 j hjk]
          simp [List.getD, List.getElem?_append_left (show j < ss.length by omega)]
        · obtain rfl : j = k := by omega
          subst hl
          rw [List.getD_eq_getElem?_getD, List.getElem?_concat_length, Option.getD_some, hb, e1]
          rfl
    · rw [List.length_drop] at hn
      refine .inr ⟨?_, by omega⟩
      unfold nxE
      rw [if_pos rfl, if_neg (by omega), if_pos (by rw [List.length_drop]; omega)]
  · refine .inr ⟨?_, by omega⟩
    unfold nxE
    rw [if_neg (by omega)]
theorem nxR_len (xs : List Int) (e m : Int) : (nxR xs e m).length ≤ xs.length := by
  unfold nxR
  split
  · rw [List.length_drop]; omega
  · exact Nat.le_refl _

section
variable {w w' : World} {P S T : Nat → Prop} {v u : Value} {xs : List Int}
theorem Blk.all3 {X : Nat} {t : TypeId} {a b c : Value} (h : Blk w X t #[a, b, c]) : w.cell? ⟨X, 0, none⟩ = some a ∧ w.cell? ⟨X, 1, none⟩ = some b ∧ Blk w X t #[a, b, c] := ⟨h.cell 0, h.cell 1, h⟩
theorem Blk.stepc3 {X g : Nat} {t : TypeId} {a b c : Value} (k : Kp (Only g) w w') (hn : X ≠ g) (h : w.cell? ⟨X, 0, none⟩ = some a ∧ w.cell? ⟨X, 1, none⟩ = some b ∧ Blk w X t #[a, b, c]) : w'.cell? ⟨X, 0, none⟩ = some a ∧ w'.cell? ⟨X, 1, none⟩ = some b ∧ Blk w' X t #[a, b, c] := (h.2.2.kp k hn).all3
theorem Blk.putc3 {X g i j : Nat} {t : TypeId} {a b c : Value} (hn : X ≠ g) (x y : Value) (h : w.cell? ⟨X, 0, none⟩ = some a ∧ w.cell? ⟨X, 1, none⟩ = some b ∧ Blk w X t #[a, b, c]) :
    ((w.setCell ⟨g, i, none⟩ x).setCell ⟨g, j, none⟩ y).cell? ⟨X, 0, none⟩ = some a ∧ ((w.setCell ⟨g, i, none⟩ x).setCell ⟨g, j, none⟩ y).cell? ⟨X, 1, none⟩ = some b ∧ Blk ((w.setCell ⟨g, i, none⟩ x).setCell ⟨g, j, none⟩ y) X t #[a, b, c] :=
  (h.2.2.kp (((Kp.refl (Only g) w).setCell (p := ⟨g, i, none⟩) (.inl rfl) x).setCell (p := ⟨g, j, none⟩) (.inl rfl) y) hn).all3

theorem Rw.three {A : Option Addr} {n c k : Nat} {es : List En} (h : Rw 3 rc en0 w P (.slice A n c) es) (hk : k < es.length) : ∃ b o, A = some ⟨b, o, none⟩ ∧ w.cell? ⟨b, o + k * 3, none⟩ = some (.int .i64 (es.getD k en0).k) ∧ w.cell? ⟨b, o + k * 3 + 1, none⟩ = some (.int .i64 ((es.getD k en0).n : Int)) ∧ w.cell? ⟨b, o + k * 3 + 2, none⟩ = some (.int .u32 (num (es.getD k en0).c)) := by
  obtain ⟨A', c', he, _, _, h3⟩ := h
  injection he with e1 e2 e3
  subst e1
  obtain ⟨b, o, e, _, _, g3⟩ := h3 (by omega)
  refine ⟨b, o, e, ?_, ?_, ?_⟩
  · have := g3 k 0 hk (by omega)
    rwa [Nat.add_zero] at this
  · have := g3 k 1 hk (by omega)
    rwa [← Nat.add_assoc] at this
  · have := g3 k 2 hk (by omega)
    rwa [← Nat.add_assoc] at this
theorem ents_getD {m k : Nat} (h : k < m) : (ents xs m).getD k en0 = entAt xs k := by
  unfold ents
  rw [List.getD_eq_getElem?_getD, List.getElem?_map, List.getElem?_range h]
  rfl

theorem kinds_top {m : Nat} {ss : List Sv} (hb : Bs xs) (h : ss.map Sv.k = (ents xs m).map En.k) : ∀ s ∈ ss, s.k ≤ 255 := fun s hs => by
  have h1 : s.k ∈ ss.map Sv.k := List.mem_map.2 ⟨s, hs, rfl⟩
  rw [h] at h1
  obtain ⟨e, he, h2⟩ := List.mem_map.1 h1
  unfold ents at he
  obtain ⟨i, _, rfl⟩ := List.mem_map.1 he
  have := getD_rg hb (9 + 7 * i)
  rw [← h2]
  exact this.2

theorem unpRest_is {m : Nat} (h1 : ¬ kinds 0 (ents xs m) = false) (h2 : ¬ xs.length - (13 + 7 * m) < total (ents xs m)) (h3 : ¬ total (ents xs m) < xs.length - (13 + 7 * m)) :
    (bodU (ents xs m) (xs.drop (13 + 7 * m)) = none → unpRest xs m = (4, [])) ∧ ∀ l, bodU (ents xs m) (xs.drop (13 + 7 * m)) = some l → unpRest xs m = (0, l) := by
  unfold unpRest
  rw [if_neg h1, if_neg h2, if_neg h3]
  exact ⟨fun h => by rw [h], fun l h => by rw [h]⟩

def BodPost (xs : List Int) (m : Nat) (w : World) (e : Ending) (w' : World) : Prop :=
  ∃ u ss, e = .returned (.tuple #[u, .int .i64 (unpRest xs m).1]) ∧ ss.map sn = (unpRest xs m).2 ∧ Ps w' (fun i => w.heap.size ≤ i) u ss ∧ Kp No w w'
theorem BodPost.bad {m : Nat} {x : Int} (h : unpRest xs m = (x, [])) (k : Kp No w w') : BodPost xs m w (.returned (.tuple #[.slice none 0 0, .int .i64 x])) w' :=
  ⟨.slice none 0 0, [], by rw [h], by rw [h]; rfl, ⟨Rw.nil _ _ _ _ _, fun s hs => by simp at hs⟩, k⟩

set_option maxHeartbeats 2000000 in
theorem readbodies_any {m : Nat} (ht : Tab w) (hbs : Bs xs) (hr : Rw 3 rc en0 w P v (ents xs m)) (hb : Byt w S u (xs.drop (13 + 7 * m))) (h16 : m ≤ 16) (hlen : 13 + 7 * m ≤ xs.length) (hl : xs.length ≤ 100000) :
    Calls Tryd.prog 34 #[v, u] w (BodPost xs m w) := by
  have HT := hid ht
  have HBS := hid hbs
  have HR := hid hr
  have HB := hid hb
  have HLN := hid hlen
  have HLX := hid hl
  have hel : (ents xs m).length = m := by simp [ents]
  have HRL := hid (show (xs.drop (13 + 7 * m)).length ≤ 100000 by simp; omega)
  obtain ⟨A, c, rfl, hc, hm, _⟩ := hr
  rw [hel] at hc HR ⊢
  unfold maxLen at hm
  obtain ⟨A', c', rfl, hrest⟩ := hb
  clear hrest
  have HEL := hid hel
  have HRL0 := HRL
  generalize (xs.drop (13 + 7 * m)).length = rl at HB HRL ⊢
  clear ht hbs hlen hl hel
  go_enter Tryd.func34, Tryd.ntmps34
  go_wp2_with (first
    | (go_at_call 41
       refine (new_any _ (xs.drop (13 + 7 * m)) _ HB.out (by have := HLX.out; simp; omega)).mono ?_
       rintro e w1 ⟨g, rfl, hg, r1, k1⟩
       have hgl := r1.lt
       have R1 := hid r1
       have K1 := hid k1
       have hw1 := k1.size
       clear r1 k1)
    | (refine wp_rowm (f := pc) sv0 usSec rfl _ _ rfl (m := m) rfl rfl (by omega) (by omega) ?_
       intro w2 fl2 k2 hz2
       have R2 := hid (R1.out.kp k2 fun _ _ h => h)
       have F2 := hid fl2
       have K2 := hid (K1.out.trans k2)
       clear fl2 k2))
  clear R1
  generalize w1.heap.size = L at F2 hgl hw1 hz2 ⊢
  have H0 := hid (show RdSt xs m 0 [] (xs.drop (13 + 7 * m)) 0 from .inl ⟨rfl, Nat.zero_le _, rfl, fun j hj => by omega⟩)
  go_loopw [20] (fun i w' => ∃ k : Nat, k ≤ m ∧ i = .int .i64 (k : Int) ∧ Hid (∃ ss rest e, Fil 2 pc sv0 42 w' L m ss ∧ Rd w' g rest e ∧ Kp No w w' ∧ L < w'.heap.size ∧ ss.map Sv.k = (ents xs k).map En.k ∧ (∀ s ∈ ss, SvOk w' (fun i => w.heap.size ≤ i ∧ i ≠ g ∧ i ≠ L) s) ∧ RdSt xs m k ss rest e ∧ rest.length ≤ 100000)) (fun i _ => m - (intOf i).toNat)
  case atStart => exact ⟨0, Nat.zero_le _, rfl, hid ⟨[], _, 0, F2.out, R2.out, K2.out, by omega, rfl, fun s hs => by simp at hs, H0.out, HRL0.out⟩⟩
  case round =>
    obtain ⟨k, hk, rfl, HI⟩ := hrel
    clear K1 K2 R2 F2 H0
    obtain ⟨ss, rest, e, fil, rd, kp, hL, hks, hok, hst, hrl⟩ := HI.out
    by_cases hkm : k < m
    · have hki : (k : Int) < (m : Int) := by omega
      have hsum := wrapI (x := (k : Int) + 1) (by unfold I64; omega)
      obtain ⟨b, o, rfl, c0, c1, c2⟩ := (HR.out.kp0 kp).three (k := k) (by rw [HEL.out]; exact hkm)
      rw [ents_getD hkm] at c0 c1 c2
      obtain ⟨q0, hq0⟩ : ∃ q, (entAt xs k).k = q := ⟨_, rfl⟩
      obtain ⟨q1, hq1⟩ : ∃ q, (entAt xs k).n = q := ⟨_, rfl⟩
      obtain ⟨q2, hq2⟩ : ∃ q, num (entAt xs k).c = q := ⟨_, rfl⟩
      rw [hq0] at c0
      rw [hq1] at c1
      rw [hq2] at c2
      have hq0r := getD_rg HBS.out (9 + 7 * k)
      have HQ0 := hid (show I64 q0 by rw [← hq0]; unfold I64 entAt; simp only; omega)
      have HSL := hid (show ss.length = k by have := congrArg List.length hks; simpa [ents] using this)
      have FF := hid fil
      have RR := hid rd
      have KK := hid kp
      have HOK := hid hok
      have HKS := hid hks
      have HST := hid hst
      have HRE := hid hrl
      have HE0 := hid hq0
      have HE1 := hid hq1
      clear fil rd kp hks hok hst hrl hq0 hq1 hq2 hq0r HI hz2
      go_upto_region 6 with fail
      have KA := (Kp.refl No wr).alloc (.cells #[.int .i64 q0, .int .i64 (q1 : Int), .int .u32 q2] 50)
      have B1 := Blk.new wr 50 #[.int .i64 q0, .int .i64 (q1 : Int), .int .u32 q2]
      have F1 := FF.out.kp0 KA
      have R1 := RR.out.kp KA fun _ _ h => h
      have K1 := KK.out.trans KA
      have O1 := hid (fun s hs => (HOK.out s hs).kp KA fun _ _ h => h)
      have hxl : L < wr.heap.size := hL
      generalize wr.alloc (.cells #[.int .i64 q0, .int .i64 (q1 : Int), .int .u32 q2] 50) = W at KA B1 F1 R1 K1 O1 ⊢
      generalize wr.heap.size = X at B1 hxl hL ⊢
      have BD := hid (B1.kp0 (Kp.refl No W).drew)
      have FD := hid (F1.kp0 (Kp.refl No W).drew)
      have RD := hid (R1.kp (Kp.refl No W).drew fun _ _ h => h)
      have KD := hid K1.drew
      have OD := hid (fun s hs => (O1.out s hs).kp (Kp.refl No W).drew fun _ _ h => h)
      have hXW : X < W.drew.heap.size := BD.out.lt
      have hgX : X ≠ g := by omega
      have hLX : X ≠ L := by omega
      have HKM := hid hkm
      have hLL : L < W.drew.heap.size := by omega
      clear KA B1 F1 R1 K1 O1 FF RR KK HOK c0 c1 c2
      go_region_held3 (fun w' => w'.cell? ⟨X, 0, none⟩ = some (.int .i64 q0) ∧ w'.cell? ⟨X, 1, none⟩ = some (.int .i64 (q1 : Int)) ∧ Blk w' X 50 #[.int .i64 q0, .int .i64 (q1 : Int), .int .u32 q2])
        (first | exact BD.out.all3 | exact Blk.stepc3 (by assumption) (by assumption) (by assumption) | exact Blk.putc3 (by assumption) _ _ (by assumption))
        (first | (go_at_call 44; refine (part_any g rest e (q1 : Int) _ RD.out HRE.out).mono ?_; rintro r w5 ⟨u5, rfl, o5, r5, k5⟩; obtain ⟨A5, c5, rfl⟩ := o5.form; have F5 := hid (FD.out.kp k5 (by unfold Only; omega)); obtain ⟨v0, c0, f0⟩ := F5.out.old (j := k) (i := 0) HKM.out (by omega); obtain ⟨v1, c1, f1⟩ := F5.out.old (j := k) (i := 1) HKM.out (by omega); simp only [Nat.add_zero] at c0 f0; have O5 := hid o5; have R5 := hid r5; have K5 := hid k5; clear o5 r5))
      have F6 := F5.out.snoc (Sv.mk q0 A5 c5 (nxP rest e (q1 : Int))) (by rw [HSL.out]; exact HKM.out) [(.int .i64 q0 : Value), .slice A5 (nxP rest e (q1 : Int)).length c5] rfl
      have K6 := hid (Kp.fill (S := Only L) (a := w5) (g := L) (.inl rfl) [(.int .i64 q0 : Value), .slice A5 (nxP rest e (q1 : Int)).length c5] (k * 2) w5 (Kp.refl _ _))
      rw [HSL.out] at F6
      have HF6 := hid F6
      have hwW := hid (show w.heap.size ≤ W.drew.heap.size from KD.out.size)
      have hgw := hid hg
      have hgL := hid hgl
      have hwL := hid hw1
      have hLW := hid hLL
      have SN := hid (show SvOk w5 (fun i => w.heap.size ≤ i ∧ i ≠ g ∧ i ≠ L) (Sv.mk q0 A5 c5 (nxP rest e (q1 : Int))) from ⟨HQ0.out, O5.out.byt fun i hi => ⟨by have := hwW.out; omega, by have := hgL.out; have := hLW.out; omega, by have := hLW.out; omega⟩⟩)
      have HK6 := hid (show Kp No w (w5.setCells L (k * 2) [(.int .i64 q0 : Value), .slice A5 (nxP rest e (q1 : Int)).length c5]) from (KD.out.step K5.out fun i hi h => by have := hgw.out; unfold Only at h; omega).step K6.out fun i hi h => by have := hwL.out; unfold Only at h; omega)
      have HR6 := hid (show Rd (w5.setCells L (k * 2) [(.int .i64 q0 : Value), .slice A5 (nxP rest e (q1 : Int)).length c5]) g (nxR rest e (q1 : Int)) (nxE rest e (q1 : Int)) from R5.out.kpg K6.out fun i hi h => by have := hgL.out; unfold Only at h; omega)
      have HS6 := hid (show ∀ s ∈ ss ++ [(Sv.mk q0 A5 c5 (nxP rest e (q1 : Int)))], SvOk (w5.setCells L (k * 2) [(.int .i64 q0 : Value), .slice A5 (nxP rest e (q1 : Int)).length c5]) (fun i => w.heap.size ≤ i ∧ i ≠ g ∧ i ≠ L) s from fun s hs => by
        rcases List.mem_append.1 hs with h | h
        · exact ((OD.out s h).kp K5.out fun i hi h => hi.2.1 h).kp K6.out fun i hi h => hi.2.2 h
        · rw [List.mem_singleton.1 h]
          exact SN.out.kp K6.out fun i hi h => hi.2.2 h)
      have HM6 := hid (show (ss ++ [(Sv.mk q0 A5 c5 (nxP rest e (q1 : Int)))]).map Sv.k = (ents xs (k + 1)).map En.k by
        rw [List.map_append, HKS.out, ents_snoc, List.map_append, List.map_singleton, List.map_singleton, HE0.out])
      have HT6 := hid (HST.out.step HSL.out (Sv.mk q0 A5 c5 (nxP rest e (q1 : Int))) (by rw [HE1.out]))
      rw [HE1.out] at HT6
      have HL6 := hid (Nat.le_trans (nxR_len rest e (q1 : Int)) HRE.out)
      clear c0 c1 f0 f1 F6
      go_upto_region 7 with fail
      go_wp2
      go_roundw
      case rel => exact ⟨k + 1, by omega, by go_num, hid ⟨_, _, _, HF6.out, HR6.out, HK6.out, HF6.out.lt, HM6.out, HS6.out, HT6.out, HL6.out⟩⟩
      case measure => simp [intOf]; omega
    · have hkk : k = m := by omega
      subst hkk
      clear HI hkm hk
      have hsl : ss.length = k := by have := congrArg List.length hks; simpa [ents] using this
      have HSL := hid hsl
      have HPs := hid (show Ps wr (fun i => w.heap.size ≤ i) (.slice (some ⟨L, 0, none⟩) k k) ss from ⟨fil.rw hsl (by unfold maxLen; omega) hw1, fun s hs => ⟨(hok s hs).k, (hok s hs).b.mono fun i _ h => h.1⟩⟩)
      have HRK := hid (risen_kinds_eq ss (ents xs k) 0 (Int.le_refl 0) hks (kinds_top HBS.out hks))
      have RR := hid rd
      have KK := hid kp
      have HKS := hid hks
      have HST := hid hst
      clear fil rd kp hks hok hst hrl hsl hL hz2
      cases hkd : kinds 0 (ents xs k) with
      | false =>
        have HKD := hid (HRK.out.trans hkd)
        have HU := hid (show unpRest xs k = (21, []) by unfold unpRest; rw [if_pos hkd])
        clear hkd
        go_wp2_with (first
          | (go_at_call 19
             refine (rise_any HPs.out).mono ?_
             rintro r w8 ⟨rfl, k8⟩
             rw [HKD.out]
             have K8 := hid (KK.out.trans k8)
             clear k8))
        go_ret2
        exact BodPost.bad HU.out K8.out
      | true =>
        have HKD := hid (HRK.out.trans hkd)
        have HK0 := hid (show ¬ kinds 0 (ents xs k) = false by rw [hkd]; decide)
        clear hkd
        rcases HST.out with ⟨rfl, h1, h2, h3⟩ | ⟨rfl, h1⟩
        · have h2l : rest.length = (xs.drop (13 + 7 * k)).length - total (ents xs k) := by rw [h2, List.length_drop]
          rw [List.length_drop] at h1 h2l
          by_cases hz : rest.length = 0
          · have HE0 := hid (show enE rest.length 0 = 0 by unfold enE; rw [if_pos rfl, if_pos hz])
            have H3 := hid h3
            have HUS := hid (unpRest_is HK0.out (by omega) (by omega))
            clear h1 h2 h2l h3 hz HST
            go_wp2_with (first
              | (go_at_call 19
                 refine (rise_any HPs.out).mono ?_
                 rintro r w8 ⟨rfl, k8⟩
                 rw [HKD.out]
                 have K8 := hid (KK.out.trans k8)
                 have R8 := hid (RR.out.kp k8 fun _ _ h => h)
                 have P8 := hid (HPs.out.kp0 k8)
                 clear k8)
              | (go_at_call 45
                 refine (end_any g rest 0 _ R8.out).mono ?_
                 rintro r w9 ⟨rfl, rfl⟩
                 rw [HE0.out]))
            have HB0 := hid (show bodU (ents xs 0) (xs.drop (13 + 7 * k)) = some ((ss.map sn).take 0) from rfl)
            go_loopw [46] (fun i w' => ∃ j : Nat, j ≤ k ∧ i = .int .i64 (j : Int) ∧ Hid (Kp No w8 w' ∧ bodU (ents xs j) (xs.drop (13 + 7 * k)) = some ((ss.map sn).take j))) (fun i _ => k - (intOf i).toNat)
            case atStart => exact ⟨0, Nat.zero_le _, rfl, hid ⟨Kp.refl _ _, HB0.out⟩⟩
            case round =>
              obtain ⟨j, hj, rfl, HJ⟩ := hrel
              by_cases hjk : j < k
              · have hki : (j : Int) < (k : Int) := by omega
                have hsum := wrapI (x := (j : Int) + 1) (by unfold I64; omega)
                have HJK := hid (show j < ss.length by rw [HSL.out]; exact hjk)
                obtain ⟨b, o, rfl, c0, c1, c2⟩ := (HR.out.kp0 (K8.out.trans HJ.out.1)).three (k := j) (by rw [HEL.out]; exact hjk)
                rw [ents_getD hjk] at c0 c1 c2
                obtain ⟨b', o', he, ok, d0, d1⟩ := (P8.out.kp0 HJ.out.1).at' (k := j) HJK.out
                cases he
                rw [Nat.zero_add] at d0 d1
                obtain ⟨nb, hnb⟩ : ∃ nb, (ss.getD j sv0).bl.length = nb := ⟨_, rfl⟩
                obtain ⟨B, bc, hbv, _, _⟩ := ok.form hnb
                have HBd := hid ok.b
                rw [hbv] at d1 HBd
                obtain ⟨q0, hq0⟩ : ∃ q, (entAt xs j).k = q := ⟨_, rfl⟩
                obtain ⟨q1, hq1⟩ : ∃ q, (entAt xs j).n = q := ⟨_, rfl⟩
                obtain ⟨z, hz⟩ : ∃ q, num (entAt xs j).c = q := ⟨_, rfl⟩
                obtain ⟨bl, hbl⟩ : ∃ q, (ss.getD j sv0).bl = q := ⟨_, rfl⟩
                obtain ⟨kd, hkd⟩ : ∃ q, (ss.getD j sv0).k = q := ⟨_, rfl⟩
                obtain ⟨q, hq⟩ : ∃ q, ck bl = q := ⟨_, rfl⟩
                have hcb : Bs (entAt xs j).c := fun y hy => HBS.out y (List.mem_of_mem_drop (List.mem_of_mem_take hy))
                have hc4 : (entAt xs j).c.length = 4 := by have := HLN.out; unfold entAt; simp; omega
                have hcw := ck_word (xs := bl) hcb hc4
                have hbat : bodAt xs k j = bl := by rw [← H3.out j hjk, hbl]
                have hkj : q0 = kd := by
                  have h1 : (ss.map Sv.k)[j]? = some kd := by rw [List.getElem?_map, List.getElem?_eq_getElem HJK.out, ← hkd]; simp [List.getD, HJK.out]
                  rw [HKS.out, List.getElem?_map] at h1
                  have h2 : (ents xs k)[j]? = some (entAt xs j) := by unfold ents; rw [List.getElem?_map, List.getElem?_range hjk]; rfl
                  rw [h2] at h1
                  rw [← hq0]
                  simpa using h1
                rw [hz, hq] at hcw
                rw [hq0] at c0
                rw [hq1] at c1
                rw [hz] at c2
                rw [hkd] at d0
                rw [hbl] at HBd
                have HQ := hid hq
                have HTJ := hid (HT.out.kp0 (K8.out.trans HJ.out.1))
                have HSN := hid (bodU_snoc (entAt xs j) (ents xs j) (xs.drop (13 + 7 * k)))
                have HBA := hid hbat
                have HQ0 := hid hq0
                have HKJ := hid hkj
                have HTK := hid (take_sn HJK.out)
                have HSB := hid (show sn (ss.getD j sv0) = ⟨kd, bl⟩ by unfold sn; rw [hkd, hbl])
                have HCW := hid hcw
                clear ok hnb hbv hq0 hq1 hz hbl hkd hq hcb hc4 hcw hbat hkj
                go_upto_region 16 with fail
                have KA := (Kp.refl No wr).alloc (.cells #[.int .i64 q0, .int .i64 (q1 : Int), .int .u32 z] 50)
                have B1 := Blk.new wr 50 #[.int .i64 q0, .int .i64 (q1 : Int), .int .u32 z]
                have d1' := (KA.cell (p := ⟨L, j * 2 + 1, none⟩) (World.block_lt_of_cell? wr _ d1) (fun h => h)).trans d1
                have K1 := hid (HJ.out.1.trans KA)
                have B2 := hid (HBd.out.kp0 KA)
                have T2 := hid (HTJ.out.kp0 KA)
                generalize wr.alloc (.cells #[.int .i64 q0, .int .i64 (q1 : Int), .int .u32 z] 50) = W at KA B1 d1' K1 B2 T2 ⊢
                generalize wr.heap.size = X at B1 ⊢
                have e1 : W.drew.cell? ⟨L, j * 2 + 1, none⟩ = some (.slice B nb bc) := d1'
                have e2 : W.drew.cell? ⟨X, 2, none⟩ = some (.int .u32 z) := B1.cell 2
                have KD := hid K1.out.drew
                have BD := hid (B2.out.kp0 (Kp.refl No _).drew)
                have TD := hid (T2.out.kp0 (Kp.refl No _).drew)
                refine region_still (by kernel_rfl) (by kernel_rfl) ?_
                clear KA B1 d1' K1 B2 T2 d0 d1 c0 c1 c2
                generalize W.drew = W1 at e1 e2 KD BD TD ⊢
                repeat still_step
                have HOF := flp (of_any (.slice B nb bc) bl W1 BD.out TD.out)
                rw [HQ.out] at HOF
                still_call HOF
                clear HOF
                by_cases hzq : z = (q : Int)
                · have hne : ((q : Int) != z) = false := by rw [bne_eq_false_iff_eq]; exact hzq.symm
                  have HBJ := hid (show bodU (ents xs (j + 1)) (xs.drop (13 + 7 * k)) = some ((ss.map sn).take (j + 1)) by
                    rw [ents_snoc, HSN.out, HJ.out.2, Option.bind_some, if_pos, HTK.out, HSB.out, HQ0.out, HKJ.out]
                    · have := HBA.out
                      unfold bodAt at this
                      rw [this]
                    · have := HBA.out
                      unfold bodAt at this
                      rw [this]
                      exact (HCW.out.1 hzq).symm)
                  clear hzq
                  repeat still_step
                  refine wpStill_nil ?_
                  clear e1 e2
                  go_wp2
                  go_roundw
                  case rel => exact ⟨j + 1, by omega, by go_num, hid ⟨KD.out, HBJ.out⟩⟩
                  case measure => simp [intOf]; omega
                · have hne : ((q : Int) != z) = true := by rw [bne_iff_ne]; exact fun h => hzq h.symm
                  have HBJ := hid (show unpRest xs k = (4, []) by
                    refine HUS.out.1 (bodU_up (k := j + 1) ?_ (by omega))
                    rw [ents_snoc, HSN.out, HJ.out.2, Option.bind_some, if_neg]
                    have := HBA.out
                    unfold bodAt at this
                    rw [this]
                    exact fun h => hzq (HCW.out.2 h.symm))
                  clear hzq
                  repeat still_step
                  refine wpStill_nil ?_
                  clear e1 e2
                  go_wp2
                  go_ret2
                  exact BodPost.bad HBJ.out (K8.out.trans KD.out)
              · have hjj : j = k := by omega
                subst hjj
                have HBJ := hid (show unpRest xs j = (0, ss.map sn) by
                  refine HUS.out.2 _ ?_
                  rw [HJ.out.2, List.take_of_length_le (by rw [List.length_map, HSL.out]; exact Nat.le_refl _)])
                go_wp2
                go_ret2
                exact ⟨_, ss, by rw [HBJ.out]; rfl, by rw [HBJ.out], P8.out.kp0 HJ.out.1, K8.out.trans HJ.out.1⟩
          · have HE0 := hid (show enE rest.length 0 = 3 by unfold enE; rw [if_pos rfl, if_neg hz])
            have HU := hid (show unpRest xs k = (3, []) by
              unfold unpRest
              rw [if_neg HK0.out, if_neg (by omega), if_pos (by omega)])
            clear h1 h2 h2l h3 hz HST
            go_wp2_with (first
              | (go_at_call 19
                 refine (rise_any HPs.out).mono ?_
                 rintro r w8 ⟨rfl, k8⟩
                 rw [HKD.out]
                 have K8 := hid (KK.out.trans k8)
                 have R8 := hid (RR.out.kp k8 fun _ _ h => h)
                 clear k8)
              | (go_at_call 45
                 refine (end_any g rest 0 _ R8.out).mono ?_
                 rintro r w9 ⟨rfl, rfl⟩
                 rw [HE0.out]))
            go_ret2
            exact BodPost.bad HU.out K8.out
        · have HE0 := hid (show enE rest.length 2 = 2 by unfold enE; rw [if_neg (by omega)])
          have HU := hid (show unpRest xs k = (2, []) by
            rw [List.length_drop] at h1
            unfold unpRest
            rw [if_neg HK0.out, if_pos h1])
          clear h1 HST
          go_wp2_with (first
            | (go_at_call 19
               refine (rise_any HPs.out).mono ?_
               rintro r w8 ⟨rfl, k8⟩
               rw [HKD.out]
               have K8 := hid (KK.out.trans k8)
               have R8 := hid (RR.out.kp k8 fun _ _ h => h)
               clear k8)
            | (go_at_call 45
               refine (end_any g rest 2 _ R8.out).mono ?_
               rintro r w9 ⟨rfl, rfl⟩
               rw [HE0.out]))
          go_ret2
          exact BodPost.bad HU.out K8.out
end
end Go.Proofs.YthhikjgaljkfpaaDoor

/-
  The walk of KinPlays.
-/
import Derived.Test.YtggmdgdgljlddaaNRefJ
import Derived.Test.YtggmdgdgljlddaaNLawB
import Derived.Test.YtggmdgdgljlddaaNMovB
import Derived.Deep.DeepCutAuto
import Derived.Deep.CutRange
import Derived.Deep.CutBlock
import Derived.Deep.RegionHeld3
import Derived.Deep.RegionHeldLaw
namespace Go.Proofs.Ytggmdgdgljlddaa
open Go.RowKit

def vNum : Value → Int
  | .int _ x => x
  | _ => 0
section
variable {α : Type} {n : Nat} {f : α → Nat → Value} {d : α} {w : World} {base : Nat} {e : TypeId} {v : Value} {xs : List α}
theorem Ow.rwq (h : Ow w base e n f v xs) : Rw n f d w (fun i => base ≤ i ∧ i < w.heap.size) v xs := by
  obtain ⟨A, c, rfl, h1, h2, h3⟩ := Ow.rw (d := d) h
  refine ⟨A, c, rfl, h1, h2, fun h0 => ?_⟩
  obtain ⟨b, o, rfl, g1, _, g3⟩ := h3 h0
  obtain ⟨hb, hl, _⟩ := h.blk (k := b) rfl
  exact ⟨b, o, rfl, g1, ⟨hb, hl⟩, g3⟩
end
section
variable {w w' : World} {S : Nat → Prop} {g m cnt k r base : Nat} {f : Int → Option Gr} {T : Tre} {D : Int → Nat} {cs : Array Value} {v : Value} {L : List (Int × Int)}
/-- A block of pairs, and one of the document's tree, is none of the program's tree. -/
theorem Kn.off {t : TypeId} (h : Kn w S g m T cnt) (hk : Blk w k t cs) (h1 : t ≠ 46) (h2 : t ≠ 3) : Kn w (fun i => S i ∧ i ≠ k) g m T cnt := by
  obtain ⟨f, h⟩ := h
  have hg : g ≠ k := fun e => by
    subst e
    have a := h.hd
    unfold Blk at a hk
    rw [hk] at a
    injection a with a
    injection a with _ a2
    exact h1 a2
  have hm : m ≠ k := fun e => by
    subst e
    obtain ⟨D, ⟨es, clock, e1, _⟩, _⟩ := h.mp
    unfold Blk at hk
    rw [hk] at e1
    cases e1
  refine ⟨f, h.hd, h.mp, ⟨h.fo.same, h.fo.row, fun x a i e hi => ⟨⟨(h.fo.own x a i e hi).1, fun ei => ?_⟩, (h.fo.own x a i e hi).2⟩, h.fo.dis⟩, ⟨h.sg, hg⟩, ⟨h.sm, hm⟩, h.gm⟩
  subst ei
  obtain ⟨q, _, _, hr⟩ := h.fo.row x a e
  rw [hi] at hr
  obtain ⟨_, _, _, cs', hb, _⟩ := hr
  unfold Blk at hb hk
  rw [hk] at hb
  injection hb with hb
  injection hb with _ hb2
  exact h2 hb2
theorem LT.len (h : LT L T) (hc : Cn T cnt) : L.length ≤ cnt := by
  obtain ⟨l, h1, h2, rfl⟩ := hc
  have hs : ∀ x ∈ L.map (·.1), x ∈ l := fun x hx => by
    obtain ⟨⟨y, p⟩, hy, rfl⟩ := List.mem_map.1 hx
    obtain ⟨_, ks, e⟩ := (h.mem y p).1 hy
    exact (h2 y).2 (by rw [e]; rfl)
  have := nodup_le _ _ h.nd hs
  simpa using this
/-- Both trees behind what was done. -/
def Kpi (w0 : World) (g m r : Nat) (T : Tre) (k : Nat) (w : World) : Prop :=
  ∃ S D cnt v L, WT T D ∧ Kn w S g m T cnt ∧ Cn T cnt ∧ cnt ≤ k + 1 ∧ RS w w0.heap.size r T v L ∧ ¬ S r ∧ (∀ i, v.ownBlock = some i → ¬ S i) ∧ (∀ i, S i → w0.heap.size ≤ i) ∧ w0.heap.size ≤ r ∧ (∀ i, S i → i < w.heap.size)
theorem Kpi.join {w0 : World} (W : WT T D) (n : Kn w S g m T cnt) (hc : Cn T cnt) (hl : cnt ≤ k + 1 + 1) (h : RS w w0.heap.size r T v L) (h1 : ¬ S r) (h2 : w0.heap.size ≤ r) (h3 : ∀ i, S i → w0.heap.size ≤ i) (h4 : ∀ i, S i → i < w.heap.size) : Kpi w0 g m r T (k + 1) w := by
  cases hv : v.ownBlock with
  | none => exact ⟨S, D, cnt, v, L, W, n, hc, hl, h, h1, (fun i hi => by rw [hv] at hi; cases hi), h3, h2, h4⟩
  | some b =>
    obtain ⟨cs, hcs⟩ := (h.ow.blk hv).2.2
    refine ⟨_, D, cnt, v, L, W, n.off (k := b) (t := 48) (cs := cs) hcs (by decide) (by decide), hc, hl, h, fun e => h1 e.1, (fun i hi e => ?_), fun i hi => h3 i hi.1, h2, fun i hi => h4 i hi.1⟩
    rw [hv] at hi
    injection hi with hi
    exact e.2 hi.symm
/-- Three cells that stay, and both trees beside. -/
structure SX (w5 : World) (w : World) : Prop where
  kp : Kp No w5 w
section
variable {w5 : World} {b j : Nat} {u : Value}
theorem SX.step (hb : b < w5.heap.size) (h : w.cell? ⟨b, j, none⟩ = some u ∧ SX w5 w) (k : Kp No w w') : w'.cell? ⟨b, j, none⟩ = some u ∧ SX w5 w' :=
  ⟨(k.cell (p := ⟨b, j, none⟩) (Nat.lt_of_lt_of_le hb h.2.kp.size) id).trans h.1, ⟨h.2.kp.trans k⟩⟩
theorem SX.kpa (h : w.cell? ⟨b, j, none⟩ = some u ∧ SX w5 w) : Kp No w5 w := h.2.kp
end
end

theorem step_callg {P : Program} {ops : Array Oper} {o : Oper} {a : Act} {w : World} {K : Act → World → Prop} {Q : Exit → Act → World → Prop} {E : Prop} {f : FuncId} {args : Array Value} {R : Value → World → Prop} (hw : Region.wanted o (yielded ops a.tmps) = true)
    (hr : (execOp a.eval o).run P w = .ok (.enter f args) w) (hc : Calls P f args w fun e w' => ∃ v, e = .returned v ∧ R v w') (h : ∀ v w', R v w' → K (a.put o.dst v) w') : if Region.wanted o (yielded ops a.tmps) = true then Oper.wp P o a w K Q else E := by
  rw [if_pos hw]
  unfold Oper.wp
  rw [hr]
  simp only [Oper.upon]
  refine Calls.mono hc fun e w' ⟨v, he, hR⟩ => ?_
  subst he
  exact h v w' hR
theorem to_v {P : Program} {f : FuncId} {args : Array Value} {w : World} {Q : Ending → World → Prop} (R : Value → World → Prop) (h : Calls P f args w Q) (hq : ∀ e w', Q e w' → ∃ v, e = .returned v ∧ R v w') : Calls P f args w fun e w' => ∃ v, e = .returned v ∧ R v w' := h.mono hq
theorem same_yes {w : World} {S S' : Nat → Prop} {v u : Value} {xs : List Int} (h1 : Rw 1 zf 0 w S v xs) (h2 : Rw 1 zf 0 w S' u xs) : Calls Try.prog 10 #[v, u] w fun e w' => ∃ z, e = .returned z ∧ z = .bool true ∧ Kp No w w' :=
  (sameI_any _ _ xs xs w h1.sl h2.sl).mono fun e w' ⟨he, q, hk⟩ => ⟨_, he, by simp, by rw [hk]; exact (Kp.refl No w).drewN q⟩

set_option maxHeartbeats 8000000 in
set_option maxRecDepth 100000 in
theorem kinPlays_walk (w : World) (os : List Kop) (at' : Int) {v : Value} (h : Kops w Anyb v os) (hat : I64 at') :
    Calls Try.prog 3 #[v, .int .i64 at'] w fun e w' => e = .returned (.bool true) ∧ Kp No w w' := by
  have HO := hid h
  obtain ⟨A, c, rfl, hc, hm, _⟩ := h.rw
  unfold maxLen at hm
  obtain ⟨n, hn⟩ : ∃ n, os.length = n := ⟨_, rfl⟩
  have HN := hid hn
  rw [hn] at hc HO ⊢
  clear hn h
  by_cases hl : 60 < n
  · have g1 : (60 : Int) < (n : Int) := by omega
    go_enter Try.func3, Try.ntmps3
    go_wp2_with (first
      | (go_at_call 4
         refine (awake_any w).mono ?_
         rintro e w1 ⟨rfl, k1⟩
         have K1 := hid k1
         clear k1))
    go_ret
    exact ⟨rfl, K1.out⟩
  · have g1 : ¬ (60 : Int) < (n : Int) := by omega
    have i0 : I64 0 := by unfold I64; omega
    go_enter Try.func3, Try.ntmps3
    go_wp2_with (first
      | (go_at_call 4
         refine (awake_any w).mono ?_
         rintro e w1 ⟨rfl, k1⟩
         have K1 := hid k1
         clear k1)
      | (go_at_call 5
         refine (new_any w1).mono ?_
         rintro e w2 ⟨g, m, rfl, hg, hm2, n2, k2⟩
         have N2 := hid n2
         have K2 := hid (K1.out.trans k2)
         clear k2 n2))
    have HK := hid (show Kpi w g m w2.heap.size newT 0 (w2.alloc (.cells #[.slice none 0 0] 29)) by
      have kA := (Kp.refl No w2).alloc (.cells #[.slice none 0 0] 29)
      have zA := kA.size
      have z1 := K1.out.size
      have z2 := K2.out.size
      refine ⟨_, _, 1, .slice none 0 0, [], WT.new, (N2.out.narrow).kp0 kA, Cn.new, Nat.le_refl _, ⟨Ow.nil _ _ _ _ _, Blk.new w2 _ _, LT.new, by simp [Value.ownBlock]⟩, fun hi => by have := hi.2; omega, fun i hi => by simp [Value.ownBlock] at hi, fun i hi => by have := hi.1; omega, by omega, fun i hi => by have := hi.2; omega⟩)
    have K3 := hid (K2.out.trans ((Kp.refl No w2).alloc (.cells #[.slice none 0 0] 29)))
    obtain ⟨r, hr⟩ : ∃ r, w2.heap.size = r := ⟨_, rfl⟩
    obtain ⟨w3, hw3⟩ : ∃ w3, w2.alloc (.cells #[.slice none 0 0] 29) = w3 := ⟨_, rfl⟩
    rw [hw3] at HK K3 ⊢
    rw [hr] at HK ⊢
    clear hw3 hr N2 K2
    go_loopw [8] (fun i wr => ∃ k : Nat, k ≤ n ∧ i = .int .i64 (k : Int) ∧ Hid (Kpi w g m r ((os.take k).foldl doT newT) k wr) ∧ Hid (Kp No w wr)) (fun i _ => n - (vNum i).toNat)
    case atStart => exact ⟨0, Nat.zero_le _, rfl, HK, K3⟩
    case round =>
      obtain ⟨k, hk, rfl, HT, KP⟩ := hrel
      clear HK K3
      by_cases hkn : k < n
      · have hkl : k < os.length := by rw [HN.out]; exact hkn
        obtain ⟨b, o, rfl, ok, hcell⟩ := (HO.out.kp0 KP.out).at' hkl
        have HS := hid (take_s os hkl kop0)
        obtain ⟨z, hz⟩ : ∃ z, os.getD k kop0 = z := ⟨_, rfl⟩
        rw [hz] at ok hcell HS
        clear hz
        have c0 := hcell 0 (by omega)
        have c1 := hcell 1 (by omega)
        have c2 := hcell 2 (by omega)
        simp only [kc, Nat.add_zero] at c0 c1 c2
        have OK := hid ok
        have hzi := ok.i
        have hzp := ok.p
        have hg1 : (k : Int) < (n : Int) := by omega
        have hsum := wrapI (x := (k : Int) + 1) (by unfold I64; omega)
        obtain ⟨T, hT⟩ : ∃ T, (os.take k).foldl doT newT = T := ⟨_, rfl⟩
        rw [hT] at HT
        obtain ⟨S, D, cnt, v, L, t1, t2, t3, t4, t5, t6, t7, t8, t9, t10⟩ := HT.out
        have W1 := hid t1
        have C1 := hid t3
        have L1 := hid (show cnt ≤ 61 by omega)
        have L4 := hid t4
        have LL := hid (show L.length ≤ 1000 by have := t5.lt.len t3; omega)
        have HE := hid (show (os.take (k + 1)).foldl doT newT = doT T z by rw [HS.out, List.foldl_append, hT]; rfl)
        obtain ⟨D', W'⟩ := t1.do z
        obtain ⟨T', hT'⟩ : ∃ T', doT T z = T' := ⟨_, rfl⟩
        rw [hT'] at W' HE
        have HT' := hid hT'
        have HW := hid W'
        obtain ⟨cd, hcd⟩ : ∃ cd, doE T z = cd := ⟨_, rfl⟩
        have HC := hid hcd
        obtain ⟨zd, zi, zp⟩ := z
        simp only at hzi hzp c0 c1 c2
        have kA := (Kp.refl No wr).alloc (.cells #[.int .i64 zd, .int .i64 zi, .int .i64 zp] 31)
        have ZA := hid kA.size
        have RA := hid (t5.kp0 kA)
        have NA := hid (t2.kp0 kA)
        have HB := hid (Blk.new wr 31 #[.int .i64 zd, .int .i64 zi, .int .i64 zp])
        have DA := hid (And.intro t6 (And.intro t7 (And.intro t8 (And.intro t9 t10))))
        have KA := hid (KP.out.trans kA)
        clear t1 t2 t3 t4 t5 t6 t7 t8 t9 t10 ok hcell W' hT hT' hcd HT HS kA
        go_upto_region 12 with fail
        obtain ⟨wA, hwA⟩ : ∃ wA, wr.alloc (.cells #[.int .i64 zd, .int .i64 zi, .int .i64 zp] 31) = wA := ⟨_, rfl⟩
        rw [hwA] at ZA RA NA HB KA ⊢
        obtain ⟨ob, hob⟩ : ∃ ob, wr.heap.size = ob := ⟨_, rfl⟩
        rw [hob] at ZA HB DA ⊢
        clear hwA hob c0 c1 c2 KP
        have NS := hid (Kn.mono (S' := fun i => S i ∨ wA.heap.size ≤ i) NA.out fun i hi => .inl hi)
        have HCB := hid (show ∀ w', Kp (fun i => i ≠ ob) wA w' → w'.cell? ⟨ob, 0, none⟩ = some (.int .i64 zd) ∧ w'.cell? ⟨ob, 1, none⟩ = some (.int .i64 zi) ∧ w'.cell? ⟨ob, 2, none⟩ = some (.int .i64 zp) from fun w' k =>
          have hb := HB.out.kp k fun e => e rfl
          ⟨hb.cell 0, hb.cell 1, hb.cell 2⟩)
        have OB := hid HB.out.lt
        have RB := hid (show ¬ r = ob from fun e => by
          have a := RA.out.hd
          have b := HB.out
          rw [e] at a
          unfold Blk at a b
          rw [b] at a
          injection a with a
          injection a with _ a2
          exact absurd a2 (by decide))
        have NB := hid (Kp.refl (fun i => i ≠ ob) wA)
        obtain ⟨c0, c1, c2⟩ := HCB.out _ NB.out
        clear HB NA
        have hcc : (cd != cd) = false := by simp
        go_upto_block 2 with (first
          | (go_at_call 6
             refine (do_any (o := (zd, zi, zp)) W1.out NS.out C1.out (fun i hi => .inr hi) OK.out (by have := L1.out; omega)).mono ?_
             rintro e w2 ⟨rfl, ⟨cnt2, hc2, hl2, n2⟩, k2⟩
             rw [HC.out]
             rw [HT'.out] at hc2 n2
             have N2 := hid n2.narrow
             have C2 := hid (And.intro hc2 (Nat.le_trans hl2 (Nat.succ_le_succ L4.out)))
             have R2 := hid (RA.out.kp k2 (fun i hi e => e.elim (DA.out.2.1 i hi) fun e => by have := (RA.out.ow.blk hi).2.1; omega) (fun e => e.elim DA.out.1 fun e => by have := RA.out.hd.lt; omega))
             have Z2 := hid (Nat.le_trans KA.out.size k2.size)
             have D2 := hid (show ¬ ((S r ∨ wA.heap.size ≤ r) ∧ r < w2.heap.size) ∧ (w.heap.size ≤ r) ∧ (∀ i, ((S i ∨ wA.heap.size ≤ i) ∧ i < w2.heap.size) → w.heap.size ≤ i) ∧ (∀ i, ((S i ∨ wA.heap.size ≤ i) ∧ i < w2.heap.size) → i < w2.heap.size) from
               ⟨fun e => e.1.elim DA.out.1 fun e => by have := RA.out.hd.lt; omega, DA.out.2.2.2.1, (fun i e => e.1.elim (DA.out.2.2.1 i) fun e => Nat.le_trans KA.out.size e), fun i e => e.2⟩)
             have KP2 := hid (KA.out.step k2 fun i hi e => by
               rcases e with e | e
               · have := DA.out.2.2.1 i e
                 omega
               · have := KA.out.size
                 omega)
             have NB2 := hid (NB.out.trans (k2.mono fun i _ e ei => by
               subst ei
               rcases e with e | e
               · have := DA.out.2.2.2.2 _ e
                 omega
               · have := OB.out
                 omega))
             clear n2 hc2 hl2 k2 c0 c1 c2
             obtain ⟨c0, c1, c2⟩ := HCB.out _ NB2.out))
        go_cut [11] from 24 to 174 (fun vf wx => vf = .int .i64 cd ∧ Hid (∃ v' L', RS wx w.heap.size r T' v' L') ∧ Hid (Kp (Only r) w2 wx))
        case first =>
          by_cases d1 : zd = 1
          · subst d1
            have e1 : addE T zi zp = cd := HC.out
            have e2 : (if addE T zi zp = 0 then hangT T zi zp [] else T) = T' := HT'.out
            have HA := hid (radd_any (id := zi) (p := zp) R2.out W1.out LL.out Z2.out hzp)
            rw [e2, e1] at HA
            clear e1 e2
            go_wp2_with (first
              | (go_at_call 7
                 refine HA.out.mono ?_
                 rintro e w3 ⟨rfl, r3, k3⟩
                 have R3 := hid r3
                 have K3 := hid k3
                 clear r3 k3))
            go_meet
            exact ⟨rfl, R3, K3⟩
          · have n1 : (zd == 1) = false := by simp [d1]
            by_cases d2 : zd = 2
            · subst d2
              have e1 : dropE T zi = cd := HC.out
              have e2 : (if dropE T zi = 0 then cutT T zi else T) = T' := HT'.out
              have HA := hid (rdrop_any (id := zi) R2.out W1.out (by have := LL.out; omega) Z2.out)
              rw [e2, e1] at HA
              clear e1 e2
              go_wp2_with (first
                | (go_at_call 8
                   refine HA.out.mono ?_
                   rintro e w3 ⟨rfl, r3, k3⟩
                   have R3 := hid r3
                   have K3 := hid k3
                   clear r3 k3))
              go_meet
              exact ⟨rfl, R3, K3⟩
            · have n2 : (zd == 2) = false := by simp [d2]
              by_cases d3 : zd = 3
              · subst d3
                have e1 : movE T zi zp = cd := HC.out
                have e2 : (if movE T zi zp = 0 then movT T zi zp else T) = T' := HT'.out
                have HA := hid (rmove_any (id := zi) (p := zp) R2.out W1.out (by have := LL.out; omega) Z2.out hzi hzp)
                rw [e2, e1] at HA
                clear e1 e2
                go_wp2_with (first
                  | (go_at_call 9
                     refine HA.out.mono ?_
                     rintro e w3 ⟨rfl, r3, k3⟩
                     have R3 := hid r3
                     have K3 := hid k3
                     clear r3 k3))
                go_meet
                exact ⟨rfl, R3, K3⟩
              · have n3 : (zd == 3) = false := by simp [d3]
                have e1 : cd = 0 := by rw [← HC.out]; unfold doE; simp only; rw [if_neg d1, if_neg d2, if_neg d3]
                have e2 : T = T' := by rw [← HT'.out]; unfold doT; simp [d1, d2, d3]
                subst e1
                have R3 := hid (show ∃ v' L', RS w2 w.heap.size r T' v' L' from ⟨_, _, e2 ▸ R2.out⟩)
                clear e2
                go_wp2_with fail
                go_meet
                exact ⟨rfl, R3, hid (Kp.refl _ _)⟩
        case rest =>
          obtain ⟨rfl, HR3, HK3⟩ := hcut
          obtain ⟨w3, hw3⟩ : ∃ w3, wc = w3 := ⟨_, rfl⟩
          rw [hw3] at HR3 HK3 ⊢
          clear hw3
          obtain ⟨v', L', r3⟩ := HR3.out
          have R3 := hid r3
          have N3 := hid (N2.out.kp HK3.out fun i hi e => D2.out.1 (e ▸ hi))
          have K3 := hid (KP2.out.step HK3.out fun i hi e => by have := D2.out.2.1; have e' : i = r := e; omega)
          have Z3 := hid HK3.out.size
          have NB3 := hid (NB2.out.trans (HK3.out.mono fun i _ e ei => by
            have e' : i = r := e
            exact RB.out (e' ▸ ei)))
          clear r3 HR3 HK3 c0 c1 c2
          obtain ⟨c0, c1, c2⟩ := HCB.out _ NB3.out
          go_wp2_with (first
            | (go_at_call 11
               with_reducible refine (under_any (x := 0) HW.out N3.out i0).mono ?_
               rintro e w4 ⟨v4, rfl, o4, k4⟩
               have O4 := hid (Ow.rwq (d := (0 : Int)) o4)
               have R4 := hid (R3.out.kp0 k4)
               have NB4 := hid (NB3.out.trans k4.all)
               have Z4 := hid (Nat.le_trans Z3.out k4.size)
               have N4 := hid (N3.out.kp0 k4)
               have K4 := hid (K3.out.trans k4)
               clear o4 k4)
            | (go_at_call 12
               with_reducible refine (runder_rec R4.out.lt HW.out 17 0 w4 i0 (.inl (by omega)) R4.out.rt).mono ?_
               rintro e w5 ⟨v5, rfl, o5, k5⟩
               have O5 := hid (Ow.rwq (d := (0 : Int)) o5)
               have O45 := hid (O4.out.kp0 k5)
               have R5 := hid (R4.out.kp0 k5)
               have NB5 := hid (NB4.out.trans k5.all)
               have Z5 := hid (Nat.le_trans Z4.out k5.size)
               have N5 := hid (N4.out.kp0 k5)
               have K5 := hid (K4.out.trans k5)
               clear o5 k5)
            | (go_at_call 10
               with_reducible refine (sameI_any _ _ (under T' 0) (under T' 0) w5 O45.out.sl O5.out.sl).mono ?_
               rintro e w6 ⟨rfl, q6, hw6⟩
               have k6 : Kp No w5 w6 := hw6 ▸ (Kp.refl No w5).drewN q6
               have R6 := hid (R5.out.kp0 k6)
               have N6 := hid (N5.out.kp0 k6)
               have K6 := hid (K5.out.trans k6)
               have NB6 := hid (NB5.out.trans k6.all)
               have Z6 := hid (Nat.le_trans Z5.out k6.size)
               clear hw6 k6 c0 c1 c2
               obtain ⟨c0, c1, c2⟩ := HCB.out _ NB6.out))
          have B7 := Blk.new w6 3 #[.int .i64 at', .int .i64 zi, .int .i64 zp]
          have k7 := (Kp.refl No w6).alloc (.cells #[.int .i64 at', .int .i64 zi, .int .i64 zp] 3)
          obtain ⟨bx, hbx⟩ : ∃ bx, w6.heap.size = bx := ⟨_, rfl⟩
          obtain ⟨w7, hw7⟩ : ∃ w7, w6.alloc (.cells #[.int .i64 at', .int .i64 zi, .int .i64 zp] 3) = w7 := ⟨_, rfl⟩
          rw [hw7] at B7 k7 ⊢
          rw [hbx] at B7 ⊢
          have N7 := hid (N6.out.kp0 k7)
          have R7 := hid (R6.out.kp0 k7)
          have K7 := hid (K6.out.trans k7)
          have Z7 := hid (Nat.le_trans Z6.out k7.size)
          have BX := hid B7.lt
          have CX := hid (show ∀ q : Nat, q < 3 → ∃ y, I64 y ∧ w7.cell? ⟨bx, q, none⟩ = some (.int .i64 y) by
            intro q hq
            match q, hq with
            | 0, _ => exact ⟨at', hat, B7.cell 0⟩
            | 1, _ => exact ⟨zi, hzi, B7.cell 1⟩
            | 2, _ => exact ⟨zp, hzp, B7.cell 2⟩)
          clear B7 k7 hw7 hbx c0 c1 c2
          go_loopw [13] (fun i wq => ∃ q : Nat, q ≤ 3 ∧ i = .int .i64 (q : Int) ∧ Hid (Kp No w7 wq)) (fun i _ => 3 - (vNum i).toNat)
          case atStart => exact ⟨0, by omega, rfl, hid (Kp.refl _ _)⟩
          case round =>
            obtain ⟨q, hq, rfl, KI⟩ := hrel
            by_cases hq3 : q < 3
            · obtain ⟨y, hyi, hcy⟩ := CX.out q hq3
              have hg2 : (q : Int) < 3 := by omega
              have hwq := wrapI (x := (q : Int) + 1) (by unfold I64; omega)
              have hbx := BX.out
              obtain ⟨bb, hbb⟩ : ∃ bb, (T' y).isSome = bb := ⟨_, rfl⟩
              have HBB := hid hbb
              obtain ⟨pr, hpr⟩ : ∃ pr, par T' y = pr := ⟨_, rfl⟩
              have HPR := hid hpr
              obtain ⟨tl, htl⟩ : ∃ tl, tall T' y = tl := ⟨_, rfl⟩
              have HTL := hid htl
              obtain ⟨ks, hks⟩ : ∃ ks, kidsT T' y = ks := ⟨_, rfl⟩
              have hkl := kids_len HW.out y
              rw [hks] at hkl
              have HKS := hid hks
              obtain ⟨ps, hps⟩ : ∃ ps, path T' y = ps := ⟨_, rfl⟩
              have HPS := hid hps
              obtain ⟨us, hus⟩ : ∃ us, under T' y = us := ⟨_, rfl⟩
              have HUS := hid hus
              have HKL := hid hkl
              have nb : (bb != bb) = false := by simp
              have np : (pr != pr) = false := by simp
              have nt : (tl != tl) = false := by simp
              clear hbb hpr htl hks hps hus hkl
              have HCY := hid hcy
              clear hcy
              have HF0 := hid (fun (W : World) (k : Kp No w7 W) => to_v (fun v w' => v = .bool bb ∧ Kp No W w') (has_any (N7.out.kp0 k) hyi) (by
                rintro e w' ⟨rfl, hk⟩
                exact ⟨_, rfl, by rw [HBB.out], hk⟩))
              have HF1 := hid (fun (W : World) (k : Kp No w7 W) => to_v (fun v w' => v = .bool bb ∧ Kp No W w') (rhas_any (R7.out.kp0 k).rt R7.out.lt HW.out y) (by
                rintro e w' ⟨rfl, rfl⟩
                exact ⟨_, rfl, by rw [HBB.out], Kp.refl _ _⟩))
              have HF2 := hid (fun (W : World) (k : Kp No w7 W) => to_v (fun v w' => v = .int .i64 pr ∧ Kp No W w') (parent_any (N7.out.kp0 k) hyi) (by
                rintro e w' ⟨rfl, hk⟩
                exact ⟨_, rfl, by rw [HPR.out], hk⟩))
              have HF3 := hid (fun (W : World) (k : Kp No w7 W) => to_v (fun v w' => v = .int .i64 pr ∧ Kp No W w') (rparent_any (R7.out.kp0 k).rt R7.out.lt HW.out y) (by
                rintro e w' ⟨rfl, rfl⟩
                exact ⟨_, rfl, by rw [HPR.out], Kp.refl _ _⟩))
              have HF4 := hid (fun (W : World) (k : Kp No w7 W) => to_v (fun v w' => v = .int .i64 tl ∧ Kp No W w') (tall_any HW.out (N7.out.kp0 k) hyi) (by
                rintro e w' ⟨rfl, hk⟩
                exact ⟨_, rfl, by rw [HTL.out], hk⟩))
              have HF5 := hid (fun (W : World) (k : Kp No w7 W) => to_v (fun v w' => v = .int .i64 tl ∧ Kp No W w') (rtall_rec R7.out.lt HW.out 17 y _ hyi (.inl (by omega)) (R7.out.kp0 k).rt) (by
                rintro e w' ⟨rfl, hk⟩
                exact ⟨_, rfl, by rw [HTL.out], hk⟩))
              have HF6 := hid (fun (W : World) (k : Kp No w7 W) => to_v (fun v w' => Rw 1 zf 0 w' Anyb v ks ∧ Kp No W w') (kids_any (N7.out.kp0 k) hyi (by rw [HKS.out]; have := HKL.out; omega)) (by
                rintro e w' ⟨b14, n14, c14, rfl, ho, _, hk⟩
                rw [HKS.out] at ho
                exact ⟨_, rfl, RowI.rw (S := Anyb) ho fun _ _ => trivial, hk⟩))
              have HF7 := hid (fun (W : World) (k : Kp No w7 W) => to_v (fun v w' => Rw 1 zf 0 w' Anyb v ks ∧ Kp No W w') (rkids_any (R7.out.kp0 k).rt R7.out.lt HW.out y) (by
                rintro e w' ⟨v, rfl, ho, hk⟩
                rw [HKS.out] at ho
                exact ⟨_, rfl, Ow.rw (d := (0 : Int)) ho, hk⟩))
              have HF9 := hid (fun (W : World) (k : Kp No w7 W) => to_v (fun v w' => Rw 1 zf 0 w' Anyb v ps ∧ Kp No W w') (path_any HW.out (N7.out.kp0 k) hyi) (by
                rintro e w' ⟨v, rfl, ho, hk⟩
                rw [HPS.out] at ho
                exact ⟨_, rfl, Ow.rw (d := (0 : Int)) ho, hk⟩))
              have HF10 := hid (fun (W : World) (k : Kp No w7 W) => to_v (fun v w' => Rw 1 zf 0 w' Anyb v ps ∧ Kp No W w') (rpath_any (R7.out.kp0 k).rt R7.out.lt HW.out hyi) (by
                rintro e w' ⟨v, rfl, ho, hk⟩
                rw [HPS.out] at ho
                exact ⟨_, rfl, Ow.rw (d := (0 : Int)) ho, hk⟩))
              have HF12 := hid (fun (W : World) (k : Kp No w7 W) => to_v (fun v w' => Rw 1 zf 0 w' Anyb v us ∧ Kp No W w') (under_any HW.out (N7.out.kp0 k) hyi) (by
                rintro e w' ⟨v, rfl, ho, hk⟩
                rw [HUS.out] at ho
                exact ⟨_, rfl, Ow.rw (d := (0 : Int)) ho, hk⟩))
              have HF13 := hid (fun (W : World) (k : Kp No w7 W) => to_v (fun v w' => Rw 1 zf 0 w' Anyb v us ∧ Kp No W w') (runder_rec R7.out.lt HW.out 17 y _ hyi (.inl (by omega)) (R7.out.kp0 k).rt) (by
                rintro e w' ⟨v, rfl, ho, hk⟩
                rw [HUS.out] at ho
                exact ⟨_, rfl, Ow.rw (d := (0 : Int)) ho, hk⟩))
              go_wp2_with fail
              refine wp_region_any (by kernel_rfl) ?_
              show wpAny _ _ _ _ _ _ _ (World.drew wr)
              have KX0 := hid (show Kp No w7 wr.drew from KI.out.drew)
              generalize World.drew wr = X0 at KX0 ⊢
              dsimp only [List.append]
              have HRD := hid (fun (W : World) (k : Kp No w7 W) => show W.cell? ⟨bx, q, none⟩ = some (.int .i64 y) from (k.cell (p := ⟨bx, q, none⟩) hbx id).trans HCY.out)
              refine wpAny_of_held (S := fun w' => w'.cell? ⟨bx, q, none⟩ = some (.int .i64 y)) _ _ _ _ ?_
              simp only [List.size_toArray, List.length_cons, List.length_nil, Nat.reduceAdd, Array.replicate_succ, Array.replicate_zero, List.push_toArray, List.nil_append, List.cons_append]
              refine wpAnyH_take (i := 0) (v := ?_) rfl (by kernel_rfl) (by kernel_rfl) (by kernel_rfl) (fun _ _ _ h => h) (Or.inl ⟨by rfl, ?_⟩) (HRD.out _ KX0.out) ?_
              rotate_left
              · (intro w6 hS6; (try go_simp); (try with_reducible rfl))
              simp only [List.getElem_toArray, List.getElem_cons_zero, Act.put, List.setIfInBounds_toArray, List.set_cons_zero, List.set_cons_succ]
              refine wpAnyH_take (i := 1) (v := ?_) rfl (by kernel_rfl) (by kernel_rfl) (by kernel_rfl) (fun _ _ _ h => h) (Or.inl ⟨by rfl, ?_⟩) (HRD.out _ KX0.out) ?_
              rotate_left
              · (intro w6 hS6; (try go_simp); (try with_reducible rfl))
              simp only [List.getElem_toArray, List.getElem_cons_zero, List.getElem_cons_succ, Act.put, List.setIfInBounds_toArray, List.set_cons_zero, List.set_cons_succ]
              refine wpAnyH_take (i := 2) (v := ?_) rfl (by kernel_rfl) (by kernel_rfl) (by kernel_rfl) (fun _ _ _ h => h) (Or.inl ⟨by rfl, ?_⟩) (HRD.out _ KX0.out) ?_
              rotate_left
              · (intro w6 hS6; (try go_simp); (try with_reducible rfl))
              simp only [List.getElem_toArray, List.getElem_cons_zero, List.getElem_cons_succ, Act.put, List.setIfInBounds_toArray, List.set_cons_zero, List.set_cons_succ]
              refine wpAnyH_take (i := 3) (v := ?_) rfl (by kernel_rfl) (by kernel_rfl) (by kernel_rfl) (fun _ _ _ h => h) (Or.inl ⟨by rfl, ?_⟩) (HRD.out _ KX0.out) ?_
              rotate_left
              · (intro w6 hS6; (try go_simp); (try with_reducible rfl))
              simp only [List.getElem_toArray, List.getElem_cons_zero, List.getElem_cons_succ, Act.put, List.setIfInBounds_toArray, List.set_cons_zero, List.set_cons_succ]
              refine wpAnyH_take (i := 4) (v := ?_) rfl (by kernel_rfl) (by kernel_rfl) (by kernel_rfl) (fun _ _ _ h => h) (Or.inl ⟨by rfl, ?_⟩) (HRD.out _ KX0.out) ?_
              rotate_left
              · (intro w6 hS6; (try go_simp); (try with_reducible rfl))
              simp only [List.getElem_toArray, List.getElem_cons_zero, List.getElem_cons_succ, Act.put, List.setIfInBounds_toArray, List.set_cons_zero, List.set_cons_succ]
              refine wpAnyH_take (i := 6) (v := ?_) rfl (by kernel_rfl) (by kernel_rfl) (by kernel_rfl) (fun _ _ _ h => h) (Or.inl ⟨by rfl, ?_⟩) (HRD.out _ KX0.out) ?_
              rotate_left
              · (intro w6 hS6; (try go_simp); (try with_reducible rfl))
              simp only [List.getElem_toArray, List.getElem_cons_zero, List.getElem_cons_succ, Act.put, List.setIfInBounds_toArray, List.set_cons_zero, List.set_cons_succ]
              refine wpAnyH_take (i := 7) (v := ?_) rfl (by kernel_rfl) (by kernel_rfl) (by kernel_rfl) (fun _ _ _ h => h) (Or.inl ⟨by rfl, ?_⟩) (HRD.out _ KX0.out) ?_
              rotate_left
              · (intro w6 hS6; (try go_simp); (try with_reducible rfl))
              simp only [List.getElem_toArray, List.getElem_cons_zero, List.getElem_cons_succ, Act.put, List.setIfInBounds_toArray, List.set_cons_zero, List.set_cons_succ]
              refine wpAnyH_take (i := 8) (v := ?_) rfl (by kernel_rfl) (by kernel_rfl) (by kernel_rfl) (fun _ _ _ h => h) (Or.inl ⟨by rfl, ?_⟩) (HRD.out _ KX0.out) ?_
              rotate_left
              · (intro w6 hS6; (try go_simp); (try with_reducible rfl))
              simp only [List.getElem_toArray, List.getElem_cons_zero, List.getElem_cons_succ, Act.put, List.setIfInBounds_toArray, List.set_cons_zero, List.set_cons_succ]
              refine wpAnyH_take (i := 9) (v := ?_) rfl (by kernel_rfl) (by kernel_rfl) (by kernel_rfl) (fun _ _ _ h => h) (Or.inl ⟨by rfl, ?_⟩) (HRD.out _ KX0.out) ?_
              rotate_left
              · (intro w6 hS6; (try go_simp); (try with_reducible rfl))
              simp only [List.getElem_toArray, List.getElem_cons_zero, List.getElem_cons_succ, Act.put, List.setIfInBounds_toArray, List.set_cons_zero, List.set_cons_succ]
              refine wpAnyH_take (i := 10) (v := ?_) rfl (by kernel_rfl) (by kernel_rfl) (by kernel_rfl) (fun _ _ _ h => h) (Or.inl ⟨by rfl, ?_⟩) (HRD.out _ KX0.out) ?_
              rotate_left
              · (intro w6 hS6; (try go_simp); (try with_reducible rfl))
              simp only [List.getElem_toArray, List.getElem_cons_zero, List.getElem_cons_succ, Act.put, List.setIfInBounds_toArray, List.set_cons_zero, List.set_cons_succ]
              refine wpAnyH_ready (rs := [5]) (by kernel_rfl) (by simp) (AllReadyH.cons rfl (fun K hK => ?_) AllReadyH.nil)
              refine step_callg (by rfl) (by go_simp) (HF0.out _ KX0.out) ?_
              intro vx1 X1 hR
              rw [hR.1]
              have KY1 := hid hR.2
              have KX1 := hid (KX0.out.trans KY1.out)
              clear hR KY1
              refine hK.out _ _ (HRD.out _ KX1.out) (fun hS => ?_)
              clear hK
              simp only [List.setIfInBounds_toArray, List.set_cons_zero, List.set_cons_succ, Act.put]
              clear hS
              refine wpAnyH_ready (rs := [11]) (by kernel_rfl) (by simp) (AllReadyH.cons rfl (fun K hK => ?_) AllReadyH.nil)
              refine step_callg (by rfl) (by go_simp) (HF1.out _ KX1.out) ?_
              intro vx2 X2 hR
              rw [hR.1]
              have KY2 := hid hR.2
              have KX2 := hid (KX1.out.trans KY2.out)
              clear hR KY2
              refine hK.out _ _ (HRD.out _ KX2.out) (fun hS => ?_)
              clear hK
              simp only [List.setIfInBounds_toArray, List.set_cons_zero, List.set_cons_succ, Act.put]
              clear hS
              refine wpAnyH_take (i := 12) (v := ?_) rfl (by kernel_rfl) (by kernel_rfl) (by kernel_rfl) (fun _ _ _ h => h) (Or.inl ⟨by rfl, ?_⟩) (HRD.out _ KX2.out) ?_
              rotate_left
              · (intro w6 hS6; (try go_simp); (try with_reducible rfl))
              simp only [List.getElem_toArray, List.getElem_cons_zero, List.getElem_cons_succ, Act.put, List.setIfInBounds_toArray, List.set_cons_zero, List.set_cons_succ]
              refine wpAnyH_take (i := 13) (v := ?_) rfl (by kernel_rfl) (by kernel_rfl) (by kernel_rfl) (fun _ _ _ h => h) (Or.inl ⟨by rfl, ?_⟩) (HRD.out _ KX2.out) ?_
              rotate_left
              · (intro w6 hS6; (try go_simp); (try with_reducible rfl))
              simp only [List.getElem_toArray, List.getElem_cons_zero, List.getElem_cons_succ, Act.put, List.setIfInBounds_toArray, List.set_cons_zero, List.set_cons_succ]
              as_aux_lemma =>
                refine wpAnyH_take (i := 14) (v := ?_) rfl (by kernel_rfl) (by kernel_rfl) (by kernel_rfl) (fun _ _ _ h => h) (Or.inl ⟨by rfl, ?_⟩) (HRD.out _ KX2.out) ?_
                rotate_left
                · (intro w6 hS6; (try go_simp); (try with_reducible rfl))
                simp only [List.getElem_toArray, List.getElem_cons_zero, List.getElem_cons_succ, Act.put, List.setIfInBounds_toArray, List.set_cons_zero, List.set_cons_succ]
                refine wpAnyH_take (i := 15) (v := ?_) rfl (by kernel_rfl) (by kernel_rfl) (by kernel_rfl) (fun _ _ _ h => h) (Or.inl ⟨by rfl, ?_⟩) (HRD.out _ KX2.out) ?_
                rotate_left
                · (intro w6 hS6; (try go_simp); (try with_reducible rfl))
                simp only [List.getElem_toArray, List.getElem_cons_zero, List.getElem_cons_succ, Act.put, List.setIfInBounds_toArray, List.set_cons_zero, List.set_cons_succ]
                refine wpAnyH_take (i := 16) (v := ?_) rfl (by kernel_rfl) (by kernel_rfl) (by kernel_rfl) (fun _ _ _ h => h) (Or.inl ⟨by rfl, ?_⟩) (HRD.out _ KX2.out) ?_
                rotate_left
                · (intro w6 hS6; (try go_simp); (try with_reducible rfl))
                simp only [List.getElem_toArray, List.getElem_cons_zero, List.getElem_cons_succ, Act.put, List.setIfInBounds_toArray, List.set_cons_zero, List.set_cons_succ]
                refine wpAnyH_take (i := 17) (v := ?_) rfl (by kernel_rfl) (by kernel_rfl) (by kernel_rfl) (fun _ _ _ h => h) (Or.inl ⟨by rfl, ?_⟩) (HRD.out _ KX2.out) ?_
                rotate_left
                · (intro w6 hS6; (try go_simp); (try with_reducible rfl))
                simp only [List.getElem_toArray, List.getElem_cons_zero, List.getElem_cons_succ, Act.put, List.setIfInBounds_toArray, List.set_cons_zero, List.set_cons_succ]
                refine wpAnyH_take (i := 18) (v := ?_) rfl (by kernel_rfl) (by kernel_rfl) (by kernel_rfl) (fun _ _ _ h => h) (Or.inl ⟨by rfl, ?_⟩) (HRD.out _ KX2.out) ?_
                rotate_left
                · (intro w6 hS6; (try go_simp); (try with_reducible rfl))
                simp only [List.getElem_toArray, List.getElem_cons_zero, List.getElem_cons_succ, Act.put, List.setIfInBounds_toArray, List.set_cons_zero, List.set_cons_succ]
                refine wpAnyH_take (i := 20) (v := ?_) rfl (by kernel_rfl) (by kernel_rfl) (by kernel_rfl) (fun _ _ _ h => h) (Or.inl ⟨by rfl, ?_⟩) (HRD.out _ KX2.out) ?_
                rotate_left
                · (intro w6 hS6; (try go_simp); (try with_reducible rfl))
                simp only [List.getElem_toArray, List.getElem_cons_zero, List.getElem_cons_succ, Act.put, List.setIfInBounds_toArray, List.set_cons_zero, List.set_cons_succ]
                refine wpAnyH_take (i := 21) (v := ?_) rfl (by kernel_rfl) (by kernel_rfl) (by kernel_rfl) (fun _ _ _ h => h) (Or.inl ⟨by rfl, ?_⟩) (HRD.out _ KX2.out) ?_
                rotate_left
                · (intro w6 hS6; (try go_simp); (try with_reducible rfl))
                simp only [List.getElem_toArray, List.getElem_cons_zero, List.getElem_cons_succ, Act.put, List.setIfInBounds_toArray, List.set_cons_zero, List.set_cons_succ]
                refine wpAnyH_take (i := 22) (v := ?_) rfl (by kernel_rfl) (by kernel_rfl) (by kernel_rfl) (fun _ _ _ h => h) (Or.inl ⟨by rfl, ?_⟩) (HRD.out _ KX2.out) ?_
                rotate_left
                · (intro w6 hS6; (try go_simp); (try with_reducible rfl))
                simp only [List.getElem_toArray, List.getElem_cons_zero, List.getElem_cons_succ, Act.put, List.setIfInBounds_toArray, List.set_cons_zero, List.set_cons_succ]
                refine wpAnyH_take (i := 23) (v := ?_) rfl (by kernel_rfl) (by kernel_rfl) (by kernel_rfl) (fun _ _ _ h => h) (Or.inl ⟨by rfl, ?_⟩) (HRD.out _ KX2.out) ?_
                rotate_left
                · (intro w6 hS6; (try go_simp); (try with_reducible rfl))
                simp only [List.getElem_toArray, List.getElem_cons_zero, List.getElem_cons_succ, Act.put, List.setIfInBounds_toArray, List.set_cons_zero, List.set_cons_succ]
                refine wpAnyH_take (i := 24) (v := ?_) rfl (by kernel_rfl) (by kernel_rfl) (by kernel_rfl) (fun _ _ _ h => h) (Or.inl ⟨by rfl, ?_⟩) (HRD.out _ KX2.out) ?_
                rotate_left
                · (intro w6 hS6; (try go_simp); (try with_reducible rfl))
                simp only [List.getElem_toArray, List.getElem_cons_zero, List.getElem_cons_succ, Act.put, List.setIfInBounds_toArray, List.set_cons_zero, List.set_cons_succ]
                refine wpAnyH_ready (rs := [19]) (by kernel_rfl) (by simp) (AllReadyH.cons rfl (fun K hK => ?_) AllReadyH.nil)
                refine step_callg (by rfl) (by go_simp) (HF2.out _ KX2.out) ?_
                intro vx3 X3 hR
                rw [hR.1]
                have KY3 := hid hR.2
                have KX3 := hid (KX2.out.trans KY3.out)
                clear hR KY3
                refine hK.out _ _ (HRD.out _ KX3.out) (fun hS => ?_)
                clear hK
                simp only [List.setIfInBounds_toArray, List.set_cons_zero, List.set_cons_succ, Act.put]
                clear hS
                refine wpAnyH_ready (rs := [25]) (by kernel_rfl) (by simp) (AllReadyH.cons rfl (fun K hK => ?_) AllReadyH.nil)
                refine step_callg (by rfl) (by go_simp) (HF3.out _ KX3.out) ?_
                intro vx4 X4 hR
                rw [hR.1]
                have KY4 := hid hR.2
                have KX4 := hid (KX3.out.trans KY4.out)
                clear hR KY4
                refine hK.out _ _ (HRD.out _ KX4.out) (fun hS => ?_)
                clear hK
                simp only [List.setIfInBounds_toArray, List.set_cons_zero, List.set_cons_succ, Act.put]
                clear hS
                refine wpAnyH_take (i := 26) (v := ?_) rfl (by kernel_rfl) (by kernel_rfl) (by kernel_rfl) (fun _ _ _ h => h) (Or.inl ⟨by rfl, ?_⟩) (HRD.out _ KX4.out) ?_
                rotate_left
                · (intro w6 hS6; (try go_simp); (try with_reducible rfl))
                simp only [List.getElem_toArray, List.getElem_cons_zero, List.getElem_cons_succ, Act.put, List.setIfInBounds_toArray, List.set_cons_zero, List.set_cons_succ]
                refine wpAnyH_take (i := 27) (v := ?_) rfl (by kernel_rfl) (by kernel_rfl) (by kernel_rfl) (fun _ _ _ h => h) (Or.inl ⟨by rfl, ?_⟩) (HRD.out _ KX4.out) ?_
                rotate_left
                · (intro w6 hS6; (try go_simp); (try with_reducible rfl))
                simp only [List.getElem_toArray, List.getElem_cons_zero, List.getElem_cons_succ, Act.put, List.setIfInBounds_toArray, List.set_cons_zero, List.set_cons_succ]
                refine wpAnyH_take (i := 28) (v := ?_) rfl (by kernel_rfl) (by kernel_rfl) (by kernel_rfl) (fun _ _ _ h => h) (Or.inl ⟨by rfl, ?_⟩) (HRD.out _ KX4.out) ?_
                rotate_left
                · (intro w6 hS6; (try go_simp); (try with_reducible rfl))
                simp only [List.getElem_toArray, List.getElem_cons_zero, List.getElem_cons_succ, Act.put, List.setIfInBounds_toArray, List.set_cons_zero, List.set_cons_succ]
                as_aux_lemma =>
                  refine wpAnyH_take (i := 29) (v := ?_) rfl (by kernel_rfl) (by kernel_rfl) (by kernel_rfl) (fun _ _ _ h => h) (Or.inl ⟨by rfl, ?_⟩) (HRD.out _ KX4.out) ?_
                  rotate_left
                  · (intro w6 hS6; (try go_simp); (try with_reducible rfl))
                  simp only [List.getElem_toArray, List.getElem_cons_zero, List.getElem_cons_succ, Act.put, List.setIfInBounds_toArray, List.set_cons_zero, List.set_cons_succ]
                  refine wpAnyH_take (i := 30) (v := ?_) rfl (by kernel_rfl) (by kernel_rfl) (by kernel_rfl) (fun _ _ _ h => h) (Or.inl ⟨by rfl, ?_⟩) (HRD.out _ KX4.out) ?_
                  rotate_left
                  · (intro w6 hS6; (try go_simp); (try with_reducible rfl))
                  simp only [List.getElem_toArray, List.getElem_cons_zero, List.getElem_cons_succ, Act.put, List.setIfInBounds_toArray, List.set_cons_zero, List.set_cons_succ]
                  refine wpAnyH_take (i := 31) (v := ?_) rfl (by kernel_rfl) (by kernel_rfl) (by kernel_rfl) (fun _ _ _ h => h) (Or.inl ⟨by rfl, ?_⟩) (HRD.out _ KX4.out) ?_
                  rotate_left
                  · (intro w6 hS6; (try go_simp); (try with_reducible rfl))
                  simp only [List.getElem_toArray, List.getElem_cons_zero, List.getElem_cons_succ, Act.put, List.setIfInBounds_toArray, List.set_cons_zero, List.set_cons_succ]
                  refine wpAnyH_take (i := 32) (v := ?_) rfl (by kernel_rfl) (by kernel_rfl) (by kernel_rfl) (fun _ _ _ h => h) (Or.inl ⟨by rfl, ?_⟩) (HRD.out _ KX4.out) ?_
                  rotate_left
                  · (intro w6 hS6; (try go_simp); (try with_reducible rfl))
                  simp only [List.getElem_toArray, List.getElem_cons_zero, List.getElem_cons_succ, Act.put, List.setIfInBounds_toArray, List.set_cons_zero, List.set_cons_succ]
                  refine wpAnyH_take (i := 33) (v := ?_) rfl (by kernel_rfl) (by kernel_rfl) (by kernel_rfl) (fun _ _ _ h => h) (Or.inl ⟨by rfl, ?_⟩) (HRD.out _ KX4.out) ?_
                  rotate_left
                  · (intro w6 hS6; (try go_simp); (try with_reducible rfl))
                  simp only [List.getElem_toArray, List.getElem_cons_zero, List.getElem_cons_succ, Act.put, List.setIfInBounds_toArray, List.set_cons_zero, List.set_cons_succ]
                  refine wpAnyH_take (i := 35) (v := ?_) rfl (by kernel_rfl) (by kernel_rfl) (by kernel_rfl) (fun _ _ _ h => h) (Or.inl ⟨by rfl, ?_⟩) (HRD.out _ KX4.out) ?_
                  rotate_left
                  · (intro w6 hS6; (try go_simp); (try with_reducible rfl))
                  simp only [List.getElem_toArray, List.getElem_cons_zero, List.getElem_cons_succ, Act.put, List.setIfInBounds_toArray, List.set_cons_zero, List.set_cons_succ]
                  refine wpAnyH_take (i := 36) (v := ?_) rfl (by kernel_rfl) (by kernel_rfl) (by kernel_rfl) (fun _ _ _ h => h) (Or.inl ⟨by rfl, ?_⟩) (HRD.out _ KX4.out) ?_
                  rotate_left
                  · (intro w6 hS6; (try go_simp); (try with_reducible rfl))
                  simp only [List.getElem_toArray, List.getElem_cons_zero, List.getElem_cons_succ, Act.put, List.setIfInBounds_toArray, List.set_cons_zero, List.set_cons_succ]
                  refine wpAnyH_take (i := 37) (v := ?_) rfl (by kernel_rfl) (by kernel_rfl) (by kernel_rfl) (fun _ _ _ h => h) (Or.inl ⟨by rfl, ?_⟩) (HRD.out _ KX4.out) ?_
                  rotate_left
                  · (intro w6 hS6; (try go_simp); (try with_reducible rfl))
                  simp only [List.getElem_toArray, List.getElem_cons_zero, List.getElem_cons_succ, Act.put, List.setIfInBounds_toArray, List.set_cons_zero, List.set_cons_succ]
                  refine wpAnyH_take (i := 38) (v := ?_) rfl (by kernel_rfl) (by kernel_rfl) (by kernel_rfl) (fun _ _ _ h => h) (Or.inl ⟨by rfl, ?_⟩) (HRD.out _ KX4.out) ?_
                  rotate_left
                  · (intro w6 hS6; (try go_simp); (try with_reducible rfl))
                  simp only [List.getElem_toArray, List.getElem_cons_zero, List.getElem_cons_succ, Act.put, List.setIfInBounds_toArray, List.set_cons_zero, List.set_cons_succ]
                  refine wpAnyH_take (i := 39) (v := ?_) rfl (by kernel_rfl) (by kernel_rfl) (by kernel_rfl) (fun _ _ _ h => h) (Or.inl ⟨by rfl, ?_⟩) (HRD.out _ KX4.out) ?_
                  rotate_left
                  · (intro w6 hS6; (try go_simp); (try with_reducible rfl))
                  simp only [List.getElem_toArray, List.getElem_cons_zero, List.getElem_cons_succ, Act.put, List.setIfInBounds_toArray, List.set_cons_zero, List.set_cons_succ]
                  refine wpAnyH_ready (rs := [34]) (by kernel_rfl) (by simp) (AllReadyH.cons rfl (fun K hK => ?_) AllReadyH.nil)
                  refine step_callg (by rfl) (by go_simp) (HF4.out _ KX4.out) ?_
                  intro vx5 X5 hR
                  rw [hR.1]
                  have KY5 := hid hR.2
                  have KX5 := hid (KX4.out.trans KY5.out)
                  clear hR KY5
                  refine hK.out _ _ (HRD.out _ KX5.out) (fun hS => ?_)
                  clear hK
                  simp only [List.setIfInBounds_toArray, List.set_cons_zero, List.set_cons_succ, Act.put]
                  clear hS
                  refine wpAnyH_ready (rs := [40]) (by kernel_rfl) (by simp) (AllReadyH.cons rfl (fun K hK => ?_) AllReadyH.nil)
                  refine step_callg (by rfl) (by go_simp) (HF5.out _ KX5.out) ?_
                  intro vx6 X6 hR
                  rw [hR.1]
                  have KY6 := hid hR.2
                  have KX6 := hid (KX5.out.trans KY6.out)
                  clear hR KY6
                  refine hK.out _ _ (HRD.out _ KX6.out) (fun hS => ?_)
                  clear hK
                  simp only [List.setIfInBounds_toArray, List.set_cons_zero, List.set_cons_succ, Act.put]
                  clear hS
                  refine wpAnyH_take (i := 41) (v := ?_) rfl (by kernel_rfl) (by kernel_rfl) (by kernel_rfl) (fun _ _ _ h => h) (Or.inl ⟨by rfl, ?_⟩) (HRD.out _ KX6.out) ?_
                  rotate_left
                  · (intro w6 hS6; (try go_simp); (try with_reducible rfl))
                  simp only [List.getElem_toArray, List.getElem_cons_zero, List.getElem_cons_succ, Act.put, List.setIfInBounds_toArray, List.set_cons_zero, List.set_cons_succ]
                  refine wpAnyH_take (i := 42) (v := ?_) rfl (by kernel_rfl) (by kernel_rfl) (by kernel_rfl) (fun _ _ _ h => h) (Or.inl ⟨by rfl, ?_⟩) (HRD.out _ KX6.out) ?_
                  rotate_left
                  · (intro w6 hS6; (try go_simp); (try with_reducible rfl))
                  simp only [List.getElem_toArray, List.getElem_cons_zero, List.getElem_cons_succ, Act.put, List.setIfInBounds_toArray, List.set_cons_zero, List.set_cons_succ]
                  refine wpAnyH_take (i := 43) (v := ?_) rfl (by kernel_rfl) (by kernel_rfl) (by kernel_rfl) (fun _ _ _ h => h) (Or.inl ⟨by rfl, ?_⟩) (HRD.out _ KX6.out) ?_
                  rotate_left
                  · (intro w6 hS6; (try go_simp); (try with_reducible rfl))
                  simp only [List.getElem_toArray, List.getElem_cons_zero, List.getElem_cons_succ, Act.put, List.setIfInBounds_toArray, List.set_cons_zero, List.set_cons_succ]
                  as_aux_lemma =>
                    refine wpAnyH_take (i := 44) (v := ?_) rfl (by kernel_rfl) (by kernel_rfl) (by kernel_rfl) (fun _ _ _ h => h) (Or.inl ⟨by rfl, ?_⟩) (HRD.out _ KX6.out) ?_
                    rotate_left
                    · (intro w6 hS6; (try go_simp); (try with_reducible rfl))
                    simp only [List.getElem_toArray, List.getElem_cons_zero, List.getElem_cons_succ, Act.put, List.setIfInBounds_toArray, List.set_cons_zero, List.set_cons_succ]
                    refine wpAnyH_take (i := 45) (v := ?_) rfl (by kernel_rfl) (by kernel_rfl) (by kernel_rfl) (fun _ _ _ h => h) (Or.inl ⟨by rfl, ?_⟩) (HRD.out _ KX6.out) ?_
                    rotate_left
                    · (intro w6 hS6; (try go_simp); (try with_reducible rfl))
                    simp only [List.getElem_toArray, List.getElem_cons_zero, List.getElem_cons_succ, Act.put, List.setIfInBounds_toArray, List.set_cons_zero, List.set_cons_succ]
                    refine wpAnyH_take (i := 46) (v := ?_) rfl (by kernel_rfl) (by kernel_rfl) (by kernel_rfl) (fun _ _ _ h => h) (Or.inl ⟨by rfl, ?_⟩) (HRD.out _ KX6.out) ?_
                    rotate_left
                    · (intro w6 hS6; (try go_simp); (try with_reducible rfl))
                    simp only [List.getElem_toArray, List.getElem_cons_zero, List.getElem_cons_succ, Act.put, List.setIfInBounds_toArray, List.set_cons_zero, List.set_cons_succ]
                    refine wpAnyH_take (i := 47) (v := ?_) rfl (by kernel_rfl) (by kernel_rfl) (by kernel_rfl) (fun _ _ _ h => h) (Or.inl ⟨by rfl, ?_⟩) (HRD.out _ KX6.out) ?_
                    rotate_left
                    · (intro w6 hS6; (try go_simp); (try with_reducible rfl))
                    simp only [List.getElem_toArray, List.getElem_cons_zero, List.getElem_cons_succ, Act.put, List.setIfInBounds_toArray, List.set_cons_zero, List.set_cons_succ]
                    refine wpAnyH_take (i := 48) (v := ?_) rfl (by kernel_rfl) (by kernel_rfl) (by kernel_rfl) (fun _ _ _ h => h) (Or.inl ⟨by rfl, ?_⟩) (HRD.out _ KX6.out) ?_
                    rotate_left
                    · (intro w6 hS6; (try go_simp); (try with_reducible rfl))
                    simp only [List.getElem_toArray, List.getElem_cons_zero, List.getElem_cons_succ, Act.put, List.setIfInBounds_toArray, List.set_cons_zero, List.set_cons_succ]
                    refine wpAnyH_take (i := 50) (v := ?_) rfl (by kernel_rfl) (by kernel_rfl) (by kernel_rfl) (fun _ _ _ h => h) (Or.inl ⟨by rfl, ?_⟩) (HRD.out _ KX6.out) ?_
                    rotate_left
                    · (intro w6 hS6; (try go_simp); (try with_reducible rfl))
                    simp only [List.getElem_toArray, List.getElem_cons_zero, List.getElem_cons_succ, Act.put, List.setIfInBounds_toArray, List.set_cons_zero, List.set_cons_succ]
                    refine wpAnyH_take (i := 51) (v := ?_) rfl (by kernel_rfl) (by kernel_rfl) (by kernel_rfl) (fun _ _ _ h => h) (Or.inl ⟨by rfl, ?_⟩) (HRD.out _ KX6.out) ?_
                    rotate_left
                    · (intro w6 hS6; (try go_simp); (try with_reducible rfl))
                    simp only [List.getElem_toArray, List.getElem_cons_zero, List.getElem_cons_succ, Act.put, List.setIfInBounds_toArray, List.set_cons_zero, List.set_cons_succ]
                    refine wpAnyH_take (i := 52) (v := ?_) rfl (by kernel_rfl) (by kernel_rfl) (by kernel_rfl) (fun _ _ _ h => h) (Or.inl ⟨by rfl, ?_⟩) (HRD.out _ KX6.out) ?_
                    rotate_left
                    · (intro w6 hS6; (try go_simp); (try with_reducible rfl))
                    simp only [List.getElem_toArray, List.getElem_cons_zero, List.getElem_cons_succ, Act.put, List.setIfInBounds_toArray, List.set_cons_zero, List.set_cons_succ]
                    refine wpAnyH_take (i := 53) (v := ?_) rfl (by kernel_rfl) (by kernel_rfl) (by kernel_rfl) (fun _ _ _ h => h) (Or.inl ⟨by rfl, ?_⟩) (HRD.out _ KX6.out) ?_
                    rotate_left
                    · (intro w6 hS6; (try go_simp); (try with_reducible rfl))
                    simp only [List.getElem_toArray, List.getElem_cons_zero, List.getElem_cons_succ, Act.put, List.setIfInBounds_toArray, List.set_cons_zero, List.set_cons_succ]
                    refine wpAnyH_take (i := 54) (v := ?_) rfl (by kernel_rfl) (by kernel_rfl) (by kernel_rfl) (fun _ _ _ h => h) (Or.inl ⟨by rfl, ?_⟩) (HRD.out _ KX6.out) ?_
                    rotate_left
                    · (intro w6 hS6; (try go_simp); (try with_reducible rfl))
                    simp only [List.getElem_toArray, List.getElem_cons_zero, List.getElem_cons_succ, Act.put, List.setIfInBounds_toArray, List.set_cons_zero, List.set_cons_succ]
                    refine wpAnyH_ready (rs := [49]) (by kernel_rfl) (by simp) (AllReadyH.cons rfl (fun K hK => ?_) AllReadyH.nil)
                    refine step_callg (by rfl) (by go_simp) (HF6.out _ KX6.out) ?_
                    intro vx7 X7 hR
                    have RX7 := hid hR.1
                    have KY7 := hid hR.2
                    have KX7 := hid (KX6.out.trans KY7.out)
                    clear hR KY7
                    refine hK.out _ _ (HRD.out _ KX7.out) (fun hS => ?_)
                    clear hK
                    simp only [List.setIfInBounds_toArray, List.set_cons_zero, List.set_cons_succ, Act.put]
                    clear hS
                    refine wpAnyH_ready (rs := [55]) (by kernel_rfl) (by simp) (AllReadyH.cons rfl (fun K hK => ?_) AllReadyH.nil)
                    refine step_callg (by rfl) (by go_simp) (HF7.out _ KX7.out) ?_
                    intro vx8 X8 hR
                    have RX8 := hid hR.1
                    have KY8 := hid hR.2
                    have RZ7 := hid (RX7.out.kp0 hR.2)
                    have KX8 := hid (KX7.out.trans KY8.out)
                    clear hR KY8
                    refine hK.out _ _ (HRD.out _ KX8.out) (fun hS => ?_)
                    clear hK
                    simp only [List.setIfInBounds_toArray, List.set_cons_zero, List.set_cons_succ, Act.put]
                    clear hS
                    refine wpAnyH_ready (rs := [56]) (by kernel_rfl) (by simp) (AllReadyH.cons rfl (fun K hK => ?_) AllReadyH.nil)
                    refine step_callg (by rfl) (by go_simp) (same_yes RZ7.out RX8.out) ?_
                    intro vx9 X9 hR
                    rw [hR.1]
                    have KY9 := hid hR.2
                    have KX9 := hid (KX8.out.trans KY9.out)
                    clear hR KY9
                    refine hK.out _ _ (HRD.out _ KX9.out) (fun hS => ?_)
                    clear hK
                    simp only [List.setIfInBounds_toArray, List.set_cons_zero, List.set_cons_succ, Act.put]
                    clear hS
                    refine wpAnyH_take (i := 57) (v := ?_) rfl (by kernel_rfl) (by kernel_rfl) (by kernel_rfl) (fun _ _ _ h => h) (Or.inl ⟨by rfl, ?_⟩) (HRD.out _ KX9.out) ?_
                    rotate_left
                    · (intro w6 hS6; (try go_simp); (try with_reducible rfl))
                    simp only [List.getElem_toArray, List.getElem_cons_zero, List.getElem_cons_succ, Act.put, List.setIfInBounds_toArray, List.set_cons_zero, List.set_cons_succ]
                    refine wpAnyH_take (i := 58) (v := ?_) rfl (by kernel_rfl) (by kernel_rfl) (by kernel_rfl) (fun _ _ _ h => h) (Or.inl ⟨by rfl, ?_⟩) (HRD.out _ KX9.out) ?_
                    rotate_left
                    · (intro w6 hS6; (try go_simp); (try with_reducible rfl))
                    simp only [List.getElem_toArray, List.getElem_cons_zero, List.getElem_cons_succ, Act.put, List.setIfInBounds_toArray, List.set_cons_zero, List.set_cons_succ]
                    refine wpAnyH_take (i := 59) (v := ?_) rfl (by kernel_rfl) (by kernel_rfl) (by kernel_rfl) (fun _ _ _ h => h) (Or.inl ⟨by rfl, ?_⟩) (HRD.out _ KX9.out) ?_
                    rotate_left
                    · (intro w6 hS6; (try go_simp); (try with_reducible rfl))
                    simp only [List.getElem_toArray, List.getElem_cons_zero, List.getElem_cons_succ, Act.put, List.setIfInBounds_toArray, List.set_cons_zero, List.set_cons_succ]
                    as_aux_lemma =>
                      refine wpAnyH_take (i := 60) (v := ?_) rfl (by kernel_rfl) (by kernel_rfl) (by kernel_rfl) (fun _ _ _ h => h) (Or.inl ⟨by rfl, ?_⟩) (HRD.out _ KX9.out) ?_
                      rotate_left
                      · (intro w6 hS6; (try go_simp); (try with_reducible rfl))
                      simp only [List.getElem_toArray, List.getElem_cons_zero, List.getElem_cons_succ, Act.put, List.setIfInBounds_toArray, List.set_cons_zero, List.set_cons_succ]
                      refine wpAnyH_take (i := 61) (v := ?_) rfl (by kernel_rfl) (by kernel_rfl) (by kernel_rfl) (fun _ _ _ h => h) (Or.inl ⟨by rfl, ?_⟩) (HRD.out _ KX9.out) ?_
                      rotate_left
                      · (intro w6 hS6; (try go_simp); (try with_reducible rfl))
                      simp only [List.getElem_toArray, List.getElem_cons_zero, List.getElem_cons_succ, Act.put, List.setIfInBounds_toArray, List.set_cons_zero, List.set_cons_succ]
                      refine wpAnyH_take (i := 62) (v := ?_) rfl (by kernel_rfl) (by kernel_rfl) (by kernel_rfl) (fun _ _ _ h => h) (Or.inl ⟨by rfl, ?_⟩) (HRD.out _ KX9.out) ?_
                      rotate_left
                      · (intro w6 hS6; (try go_simp); (try with_reducible rfl))
                      simp only [List.getElem_toArray, List.getElem_cons_zero, List.getElem_cons_succ, Act.put, List.setIfInBounds_toArray, List.set_cons_zero, List.set_cons_succ]
                      refine wpAnyH_take (i := 63) (v := ?_) rfl (by kernel_rfl) (by kernel_rfl) (by kernel_rfl) (fun _ _ _ h => h) (Or.inl ⟨by rfl, ?_⟩) (HRD.out _ KX9.out) ?_
                      rotate_left
                      · (intro w6 hS6; (try go_simp); (try with_reducible rfl))
                      simp only [List.getElem_toArray, List.getElem_cons_zero, List.getElem_cons_succ, Act.put, List.setIfInBounds_toArray, List.set_cons_zero, List.set_cons_succ]
                      refine wpAnyH_take (i := 64) (v := ?_) rfl (by kernel_rfl) (by kernel_rfl) (by kernel_rfl) (fun _ _ _ h => h) (Or.inl ⟨by rfl, ?_⟩) (HRD.out _ KX9.out) ?_
                      rotate_left
                      · (intro w6 hS6; (try go_simp); (try with_reducible rfl))
                      simp only [List.getElem_toArray, List.getElem_cons_zero, List.getElem_cons_succ, Act.put, List.setIfInBounds_toArray, List.set_cons_zero, List.set_cons_succ]
                      refine wpAnyH_take (i := 66) (v := ?_) rfl (by kernel_rfl) (by kernel_rfl) (by kernel_rfl) (fun _ _ _ h => h) (Or.inl ⟨by rfl, ?_⟩) (HRD.out _ KX9.out) ?_
                      rotate_left
                      · (intro w6 hS6; (try go_simp); (try with_reducible rfl))
                      simp only [List.getElem_toArray, List.getElem_cons_zero, List.getElem_cons_succ, Act.put, List.setIfInBounds_toArray, List.set_cons_zero, List.set_cons_succ]
                      refine wpAnyH_take (i := 67) (v := ?_) rfl (by kernel_rfl) (by kernel_rfl) (by kernel_rfl) (fun _ _ _ h => h) (Or.inl ⟨by rfl, ?_⟩) (HRD.out _ KX9.out) ?_
                      rotate_left
                      · (intro w6 hS6; (try go_simp); (try with_reducible rfl))
                      simp only [List.getElem_toArray, List.getElem_cons_zero, List.getElem_cons_succ, Act.put, List.setIfInBounds_toArray, List.set_cons_zero, List.set_cons_succ]
                      refine wpAnyH_take (i := 68) (v := ?_) rfl (by kernel_rfl) (by kernel_rfl) (by kernel_rfl) (fun _ _ _ h => h) (Or.inl ⟨by rfl, ?_⟩) (HRD.out _ KX9.out) ?_
                      rotate_left
                      · (intro w6 hS6; (try go_simp); (try with_reducible rfl))
                      simp only [List.getElem_toArray, List.getElem_cons_zero, List.getElem_cons_succ, Act.put, List.setIfInBounds_toArray, List.set_cons_zero, List.set_cons_succ]
                      refine wpAnyH_take (i := 69) (v := ?_) rfl (by kernel_rfl) (by kernel_rfl) (by kernel_rfl) (fun _ _ _ h => h) (Or.inl ⟨by rfl, ?_⟩) (HRD.out _ KX9.out) ?_
                      rotate_left
                      · (intro w6 hS6; (try go_simp); (try with_reducible rfl))
                      simp only [List.getElem_toArray, List.getElem_cons_zero, List.getElem_cons_succ, Act.put, List.setIfInBounds_toArray, List.set_cons_zero, List.set_cons_succ]
                      refine wpAnyH_take (i := 70) (v := ?_) rfl (by kernel_rfl) (by kernel_rfl) (by kernel_rfl) (fun _ _ _ h => h) (Or.inl ⟨by rfl, ?_⟩) (HRD.out _ KX9.out) ?_
                      rotate_left
                      · (intro w6 hS6; (try go_simp); (try with_reducible rfl))
                      simp only [List.getElem_toArray, List.getElem_cons_zero, List.getElem_cons_succ, Act.put, List.setIfInBounds_toArray, List.set_cons_zero, List.set_cons_succ]
                      refine wpAnyH_ready (rs := [65]) (by kernel_rfl) (by simp) (AllReadyH.cons rfl (fun K hK => ?_) AllReadyH.nil)
                      refine step_callg (by rfl) (by go_simp) (HF9.out _ KX9.out) ?_
                      intro vx10 X10 hR
                      have RX10 := hid hR.1
                      have KY10 := hid hR.2
                      have KX10 := hid (KX9.out.trans KY10.out)
                      clear hR KY10
                      refine hK.out _ _ (HRD.out _ KX10.out) (fun hS => ?_)
                      clear hK
                      simp only [List.setIfInBounds_toArray, List.set_cons_zero, List.set_cons_succ, Act.put]
                      clear hS
                      refine wpAnyH_ready (rs := [71]) (by kernel_rfl) (by simp) (AllReadyH.cons rfl (fun K hK => ?_) AllReadyH.nil)
                      refine step_callg (by rfl) (by go_simp) (HF10.out _ KX10.out) ?_
                      intro vx11 X11 hR
                      have RX11 := hid hR.1
                      have KY11 := hid hR.2
                      have RZ10 := hid (RX10.out.kp0 hR.2)
                      have KX11 := hid (KX10.out.trans KY11.out)
                      clear hR KY11
                      refine hK.out _ _ (HRD.out _ KX11.out) (fun hS => ?_)
                      clear hK
                      simp only [List.setIfInBounds_toArray, List.set_cons_zero, List.set_cons_succ, Act.put]
                      clear hS
                      refine wpAnyH_ready (rs := [72]) (by kernel_rfl) (by simp) (AllReadyH.cons rfl (fun K hK => ?_) AllReadyH.nil)
                      refine step_callg (by rfl) (by go_simp) (same_yes RZ10.out RX11.out) ?_
                      intro vx12 X12 hR
                      rw [hR.1]
                      have KY12 := hid hR.2
                      have KX12 := hid (KX11.out.trans KY12.out)
                      clear hR KY12
                      refine hK.out _ _ (HRD.out _ KX12.out) (fun hS => ?_)
                      clear hK
                      simp only [List.setIfInBounds_toArray, List.set_cons_zero, List.set_cons_succ, Act.put]
                      clear hS
                      refine wpAnyH_take (i := 73) (v := ?_) rfl (by kernel_rfl) (by kernel_rfl) (by kernel_rfl) (fun _ _ _ h => h) (Or.inl ⟨by rfl, ?_⟩) (HRD.out _ KX12.out) ?_
                      rotate_left
                      · (intro w6 hS6; (try go_simp); (try with_reducible rfl))
                      simp only [List.getElem_toArray, List.getElem_cons_zero, List.getElem_cons_succ, Act.put, List.setIfInBounds_toArray, List.set_cons_zero, List.set_cons_succ]
                      refine wpAnyH_take (i := 74) (v := ?_) rfl (by kernel_rfl) (by kernel_rfl) (by kernel_rfl) (fun _ _ _ h => h) (Or.inl ⟨by rfl, ?_⟩) (HRD.out _ KX12.out) ?_
                      rotate_left
                      · (intro w6 hS6; (try go_simp); (try with_reducible rfl))
                      simp only [List.getElem_toArray, List.getElem_cons_zero, List.getElem_cons_succ, Act.put, List.setIfInBounds_toArray, List.set_cons_zero, List.set_cons_succ]
                      refine wpAnyH_take (i := 75) (v := ?_) rfl (by kernel_rfl) (by kernel_rfl) (by kernel_rfl) (fun _ _ _ h => h) (Or.inl ⟨by rfl, ?_⟩) (HRD.out _ KX12.out) ?_
                      rotate_left
                      · (intro w6 hS6; (try go_simp); (try with_reducible rfl))
                      simp only [List.getElem_toArray, List.getElem_cons_zero, List.getElem_cons_succ, Act.put, List.setIfInBounds_toArray, List.set_cons_zero, List.set_cons_succ]
                      as_aux_lemma =>
                        refine wpAnyH_take (i := 76) (v := ?_) rfl (by kernel_rfl) (by kernel_rfl) (by kernel_rfl) (fun _ _ _ h => h) (Or.inl ⟨by rfl, ?_⟩) (HRD.out _ KX12.out) ?_
                        rotate_left
                        · (intro w6 hS6; (try go_simp); (try with_reducible rfl))
                        simp only [List.getElem_toArray, List.getElem_cons_zero, List.getElem_cons_succ, Act.put, List.setIfInBounds_toArray, List.set_cons_zero, List.set_cons_succ]
                        refine wpAnyH_take (i := 77) (v := ?_) rfl (by kernel_rfl) (by kernel_rfl) (by kernel_rfl) (fun _ _ _ h => h) (Or.inl ⟨by rfl, ?_⟩) (HRD.out _ KX12.out) ?_
                        rotate_left
                        · (intro w6 hS6; (try go_simp); (try with_reducible rfl))
                        simp only [List.getElem_toArray, List.getElem_cons_zero, List.getElem_cons_succ, Act.put, List.setIfInBounds_toArray, List.set_cons_zero, List.set_cons_succ]
                        refine wpAnyH_take (i := 78) (v := ?_) rfl (by kernel_rfl) (by kernel_rfl) (by kernel_rfl) (fun _ _ _ h => h) (Or.inl ⟨by rfl, ?_⟩) (HRD.out _ KX12.out) ?_
                        rotate_left
                        · (intro w6 hS6; (try go_simp); (try with_reducible rfl))
                        simp only [List.getElem_toArray, List.getElem_cons_zero, List.getElem_cons_succ, Act.put, List.setIfInBounds_toArray, List.set_cons_zero, List.set_cons_succ]
                        refine wpAnyH_take (i := 79) (v := ?_) rfl (by kernel_rfl) (by kernel_rfl) (by kernel_rfl) (fun _ _ _ h => h) (Or.inl ⟨by rfl, ?_⟩) (HRD.out _ KX12.out) ?_
                        rotate_left
                        · (intro w6 hS6; (try go_simp); (try with_reducible rfl))
                        simp only [List.getElem_toArray, List.getElem_cons_zero, List.getElem_cons_succ, Act.put, List.setIfInBounds_toArray, List.set_cons_zero, List.set_cons_succ]
                        refine wpAnyH_take (i := 80) (v := ?_) rfl (by kernel_rfl) (by kernel_rfl) (by kernel_rfl) (fun _ _ _ h => h) (Or.inl ⟨by rfl, ?_⟩) (HRD.out _ KX12.out) ?_
                        rotate_left
                        · (intro w6 hS6; (try go_simp); (try with_reducible rfl))
                        simp only [List.getElem_toArray, List.getElem_cons_zero, List.getElem_cons_succ, Act.put, List.setIfInBounds_toArray, List.set_cons_zero, List.set_cons_succ]
                        refine wpAnyH_take (i := 82) (v := ?_) rfl (by kernel_rfl) (by kernel_rfl) (by kernel_rfl) (fun _ _ _ h => h) (Or.inl ⟨by rfl, ?_⟩) (HRD.out _ KX12.out) ?_
                        rotate_left
                        · (intro w6 hS6; (try go_simp); (try with_reducible rfl))
                        simp only [List.getElem_toArray, List.getElem_cons_zero, List.getElem_cons_succ, Act.put, List.setIfInBounds_toArray, List.set_cons_zero, List.set_cons_succ]
                        refine wpAnyH_take (i := 83) (v := ?_) rfl (by kernel_rfl) (by kernel_rfl) (by kernel_rfl) (fun _ _ _ h => h) (Or.inl ⟨by rfl, ?_⟩) (HRD.out _ KX12.out) ?_
                        rotate_left
                        · (intro w6 hS6; (try go_simp); (try with_reducible rfl))
                        simp only [List.getElem_toArray, List.getElem_cons_zero, List.getElem_cons_succ, Act.put, List.setIfInBounds_toArray, List.set_cons_zero, List.set_cons_succ]
                        refine wpAnyH_take (i := 84) (v := ?_) rfl (by kernel_rfl) (by kernel_rfl) (by kernel_rfl) (fun _ _ _ h => h) (Or.inl ⟨by rfl, ?_⟩) (HRD.out _ KX12.out) ?_
                        rotate_left
                        · (intro w6 hS6; (try go_simp); (try with_reducible rfl))
                        simp only [List.getElem_toArray, List.getElem_cons_zero, List.getElem_cons_succ, Act.put, List.setIfInBounds_toArray, List.set_cons_zero, List.set_cons_succ]
                        refine wpAnyH_take (i := 85) (v := ?_) rfl (by kernel_rfl) (by kernel_rfl) (by kernel_rfl) (fun _ _ _ h => h) (Or.inl ⟨by rfl, ?_⟩) (HRD.out _ KX12.out) ?_
                        rotate_left
                        · (intro w6 hS6; (try go_simp); (try with_reducible rfl))
                        simp only [List.getElem_toArray, List.getElem_cons_zero, List.getElem_cons_succ, Act.put, List.setIfInBounds_toArray, List.set_cons_zero, List.set_cons_succ]
                        refine wpAnyH_take (i := 86) (v := ?_) rfl (by kernel_rfl) (by kernel_rfl) (by kernel_rfl) (fun _ _ _ h => h) (Or.inl ⟨by rfl, ?_⟩) (HRD.out _ KX12.out) ?_
                        rotate_left
                        · (intro w6 hS6; (try go_simp); (try with_reducible rfl))
                        simp only [List.getElem_toArray, List.getElem_cons_zero, List.getElem_cons_succ, Act.put, List.setIfInBounds_toArray, List.set_cons_zero, List.set_cons_succ]
                        refine wpAnyH_ready (rs := [81]) (by kernel_rfl) (by simp) (AllReadyH.cons rfl (fun K hK => ?_) AllReadyH.nil)
                        refine step_callg (by rfl) (by go_simp) (HF12.out _ KX12.out) ?_
                        intro vx13 X13 hR
                        have RX13 := hid hR.1
                        have KY13 := hid hR.2
                        have KX13 := hid (KX12.out.trans KY13.out)
                        clear hR KY13
                        refine hK.out _ _ (HRD.out _ KX13.out) (fun hS => ?_)
                        clear hK
                        simp only [List.setIfInBounds_toArray, List.set_cons_zero, List.set_cons_succ, Act.put]
                        clear hS
                        refine wpAnyH_ready (rs := [87]) (by kernel_rfl) (by simp) (AllReadyH.cons rfl (fun K hK => ?_) AllReadyH.nil)
                        refine step_callg (by rfl) (by go_simp) (HF13.out _ KX13.out) ?_
                        intro vx14 X14 hR
                        have RX14 := hid hR.1
                        have KY14 := hid hR.2
                        have RZ13 := hid (RX13.out.kp0 hR.2)
                        have KX14 := hid (KX13.out.trans KY14.out)
                        clear hR KY14
                        refine hK.out _ _ (HRD.out _ KX14.out) (fun hS => ?_)
                        clear hK
                        simp only [List.setIfInBounds_toArray, List.set_cons_zero, List.set_cons_succ, Act.put]
                        clear hS
                        refine wpAnyH_ready (rs := [88]) (by kernel_rfl) (by simp) (AllReadyH.cons rfl (fun K hK => ?_) AllReadyH.nil)
                        refine step_callg (by rfl) (by go_simp) (same_yes RZ13.out RX14.out) ?_
                        intro vx15 X15 hR
                        rw [hR.1]
                        have KY15 := hid hR.2
                        have KX15 := hid (KX14.out.trans KY15.out)
                        clear hR KY15
                        refine hK.out _ _ (HRD.out _ KX15.out) (fun hS => ?_)
                        clear hK
                        simp only [List.setIfInBounds_toArray, List.set_cons_zero, List.set_cons_succ, Act.put]
                        clear hS
                        refine wpAnyH_take (i := 89) (v := ?_) rfl (by kernel_rfl) (by kernel_rfl) (by kernel_rfl) (fun _ _ _ h => h) (Or.inl ⟨by rfl, ?_⟩) (HRD.out _ KX15.out) ?_
                        rotate_left
                        · (intro w6 hS6; (try go_simp); (try with_reducible rfl))
                        simp only [List.getElem_toArray, List.getElem_cons_zero, List.getElem_cons_succ, Act.put, List.setIfInBounds_toArray, List.set_cons_zero, List.set_cons_succ]
                        refine wpAnyH_take (i := 90) (v := ?_) rfl (by kernel_rfl) (by kernel_rfl) (by kernel_rfl) (fun _ _ _ h => h) (Or.inl ⟨by rfl, ?_⟩) (HRD.out _ KX15.out) ?_
                        rotate_left
                        · (intro w6 hS6; (try go_simp); (try with_reducible rfl))
                        simp only [List.getElem_toArray, List.getElem_cons_zero, List.getElem_cons_succ, Act.put, List.setIfInBounds_toArray, List.set_cons_zero, List.set_cons_succ]
                        refine wpAnyH_done (by kernel_rfl) ?_ _
                        go_wp2_with fail
                        go_roundw
                        case rel => exact ⟨q + 1, by omega, by go_num, KX15⟩
                        case measure => simp [vNum]; omega
            · have hqq : q = 3 := by omega
              subst hqq
              go_wp2_with fail
              go_roundw
              case rel =>
                refine ⟨k + 1, by omega, by go_num, hid ?_, hid (K7.out.trans KI.out)⟩
                rw [HE.out]
                have R8 := R7.out.kp0 KI.out
                have N8 := N7.out.kp0 KI.out
                obtain ⟨hc2, hl2⟩ := C2.out
                obtain ⟨d1', d2', d3', d4'⟩ := D2.out
                exact Kpi.join HW.out N8 hc2 hl2 R8 d1' d2' d3' fun i hi => by have := d4' i hi; have := Z7.out; have := KI.out.size; omega
              case measure => simp [vNum]; omega
      · have hkk : k = n := by omega
        subst hkk
        have hng : ¬ (k : Int) < (k : Int) := by omega
        go_wp2
        go_ret
        exact ⟨rfl, KP.out⟩
end Go.Proofs.Ytggmdgdgljlddaa

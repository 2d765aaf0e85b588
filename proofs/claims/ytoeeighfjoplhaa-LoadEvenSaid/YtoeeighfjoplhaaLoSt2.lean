/-
  Contracts of load's Settle and Loads.
-/
import Derived.Test.YtoeeighfjoplhaaLoSe
import Derived.Test.YtoeeighfjoplhaaMaskC
import Derived.OwnWalk
import Derived.Deep.LoopGhost
/-
  Contracts of load's Balance, Settle and Loads.
-/
namespace Go.Proofs.Ytoeeighfjoplhaa
open Go.RowKit
theorem seatI : (Try.prog.info? 38).map (fun i => (i.zero, i.size, i.bytes)) = some (some (.agg #[.int .i64 0, .int .i64 0, .int .u64 0]), 3, 24) := by kernel_rfl
theorem usS : Us Try.prog 22 38 3 24 (.agg #[.int .i64 0, .int .i64 0, .int .u64 0]) := ⟨by kernel_rfl, by kernel_rfl, rfl, by decide⟩
set_option maxRecDepth 100000 in
set_option maxHeartbeats 4000000 in
/-- slices.Clone at seats. -/
theorem cloneS_any {w : World} {P : Nat → Prop} {v : Value} {ss : List St} (h : Rw 3 sc st0 w P v ss) (hn : ss.length ≤ 1000000) :
    Calls Try.prog 35 #[v] w fun e w' => ∃ u, e = .returned u ∧ Ow w' w.heap.size 38 3 sc u ss ∧ Kp No w w' := by
  obtain ⟨A, c, rfl, h1, h2, h3⟩ := id h
  cases A with
  | none =>
    have h0 : ss.length = 0 := by
      refine Nat.eq_zero_of_not_pos fun hp => ?_
      obtain ⟨b, o, e, _⟩ := h3 hp
      cases e
    have hs : ss = [] := List.eq_nil_of_length_eq_zero h0
    subst hs
    refine (AnyE.slices_Clone_nil Try.cloneS _ _ w).mono ?_
    rintro e w' ⟨rfl, rfl⟩
    exact ⟨_, rfl, Ow.nil _ _ _ _ _, Kp.refl _ _⟩
  | some a =>
    have HH := hid h
    have HN := hid hn
    have q22 : ∀ w, (binOp .eql 22 (.slice (some a) ss.length c) (.slice none 0 0)).run Try.prog w = .ok (.bool false) w := fun w => Lib.run_eql_slice_nil w _ _ (some a) ss.length c 0 0 usS.un
    clear h hn h1 h2 h3
    go_enter Try.func35, Try.ntmps35
    go_wp2_with (refine wp_apps usS (fun x i => sc_one x i) rfl (.tmp 5) (.tmp 6) rfl (d := st0) (base := w.heap.size) (xs := []) (ys := ss) (Pb := P) (by exact Ow.mt _ _ _ _ _ (Nat.le_refl _)) (by exact HH.out.kp0 ((Kp.refl No w).alloc _)) (by have := HN.out; simp only [List.length_nil]; omega) (by have := HN.out; simp only [List.length_nil, maxLen]; omega) (by simp) ?_; intro v' w' ho kk; have HO := hid ho; have HK := hid kk; clear ho kk)
    go_ret
    refine ⟨v', rfl, by simpa using HO.out, ((Kp.refl No w).alloc _).step HK.out fun i hi e => ?_⟩
    have e : w.heap.size ≤ i := e
    omega
/-- Seats that the call owns, and their slice. -/
structure Sw (w : World) (lo Bd : Nat) (A : Option Addr) (n c : Nat) (ss : List St) : Prop where
  rw : Rw 3 sc st0 w (fun i => i < Bd) (.slice A n c) ss
  so : 0 < n → ∃ sb, A = some ⟨sb, 0, none⟩ ∧ So w sb ss ∧ sb < Bd ∧ lo ≤ sb
  ln : ss.length = n
  cb : n ≤ c ∧ c ≤ maxLen
theorem Sw.of {w : World} {base : Nat} {u : Value} {ss : List St} (h : Ow w base 38 3 sc u ss) : ∃ A c, u = .slice A ss.length c ∧ Sw w base w.heap.size A ss.length c ss := by
  have hr := (h.rw (d := st0)).oldP
  obtain ⟨A, c, rfl, h1, h2, h3⟩ := id hr
  refine ⟨A, c, rfl, hr, fun hp => ?_, rfl, h1, h2⟩
  rcases h.2 with ⟨_, h0⟩ | ⟨g, cap, cur, e, hb, hg, hl, hm, hs, ht⟩
  · omega
  · injection e with e1 e2 e3
    subst e1
    refine ⟨g, rfl, ⟨cur, hg, fun j i hj hi => ?_⟩, (Array.getElem?_eq_some_iff.1 hg).1, hb⟩
    have h4 := flat_at (f := sc) (d := st0) ss hj hi
    rw [← ht, List.getElem?_take_of_lt (by omega), Array.getElem?_toList] at h4
    exact h4
/-- What Balance tells. -/
def BalP (on : Nat) (ss : List St) (w : World) (e : Ending) (w' : World) : Prop := Kp No w w' ∧ ∃ (i t : Int) (q : Bool), e = .returned (.tuple #[.int .i64 i, .int .i64 t, .bool q]) ∧
      ((q = true ∧ ∃ p' t' : Nat, i = (ss.getD p' st0).id ∧ t = (t' : Int) ∧ Mv1 on ss p' t') ∨ (q = false ∧ i = 0 ∧ t = 0 ∧ Mv0 on ss))
set_option maxRecDepth 100000 in
set_option maxHeartbeats 4000000 in
theorem balance_any {w : World} {n c on : Nat} {A : Option Addr} {ss : List St} (hr : Rw 3 sc st0 w Anyb (.slice A n c) ss) (hn : ss.length = n) (hn2 : n ≤ 40) (ho : U64 on) (hc : ∀ x, U64 (csAt ss x)) :
    Calls Try.prog 15 #[.slice A n c, .int .u64 (on : Int)] w (BalP on ss w) := by
  have HE := hid (enter_any hr hn hn2)
  have HR := hid hr
  have HN := hid hn
  have HO := hid ho
  have HC := hid hc
  clear hr hn ho hc
  go_enter Try.func15, Try.ntmps15
  go_upto_region 2 with (first
    | (go_at_call 32; refine HE.out.mono ?_; rintro e w2 ⟨hb, bs, cp, P, rfl, h2, r2, k2⟩; have H2 := hid h2; have R2 := hid r2; have K2 := hid k2; clear h2 r2 k2)
    | (go_at_call 33; refine (move_any H2.out R2.out (HR.out.kp0 K2.out) HN.out (by omega) HO.out HC.out).mono ?_
       intro e w3 h3
       obtain ⟨i, t, q, rfl, k3, h3⟩ : ∃ (i t : Int) (q : Bool), e = .returned (.tuple #[.int .i64 i, .int .i64 t, .bool q]) ∧ Kp No w2 w3 ∧ ((q = true ∧ ∃ p' t' : Nat, i = (p' : Int) ∧ t = (t' : Int) ∧ Mv1 on ss p' t') ∨ (q = false ∧ i = 0 ∧ t = 0 ∧ Mv0 on ss)) := by
         obtain ⟨k3, (⟨x, p, t, rfl, hy⟩ | ⟨rfl, hn⟩)⟩ := h3
         · obtain ⟨p', t', e1, e2, hm⟩ := hy.mv1 R2.out
           exact ⟨p, t, true, rfl, k3, .inl ⟨rfl, p', t', e1, e2, hm⟩⟩
         · exact ⟨0, 0, false, rfl, k3, .inr ⟨rfl, rfl, rfl, hn.mv0 R2.out⟩⟩
       have K3 := hid k3; have H3 := hid h3; clear k3 h3))
  cases q with
  | false =>
    obtain ⟨e1, e2, h0⟩ : i = 0 ∧ t = 0 ∧ Mv0 on ss := by
      rcases H3.out with ⟨e, _⟩ | ⟨_, e1, e2, h⟩
      · cases e
      · exact ⟨e1, e2, h⟩
    have H4 := hid h0
    clear h0 e1 e2
    go_wp2_with fail
    (try simp only [Exit.inBlock, Exit.then])
    refine bodyPost_ret (results_tmp3 rfl _ _ _) rfl ?_
    exact ⟨K2.out.trans K3.out, 0, 0, false, rfl, .inr ⟨rfl, rfl, rfl, H4.out⟩⟩
  | true =>
    obtain ⟨p', t', rfl, rfl, hm⟩ : ∃ p' t' : Nat, i = (p' : Int) ∧ t = (t' : Int) ∧ Mv1 on ss p' t' := by
      rcases H3.out with ⟨_, h⟩ | ⟨e, _⟩
      · exact h
      · cases e
    have H4 := hid hm
    have hpl := hm.pl
    clear hm
    obtain ⟨ba, oa, rfl⟩ := HR.out.there (by omega)
    have c0 := HR.out.cell (j := p') (i := 0) (K2.out.trans K3.out) (by omega) (by omega) rfl
    simp only [sc, Nat.add_zero] at c0
    have gp : (p' : Int) < (n : Int) := by have := HN.out; omega
    go_wp2_with fail
    (try simp only [Exit.inBlock, Exit.then])
    refine bodyPost_ret (results_tmp3 rfl _ _ _) rfl ?_
    exact ⟨K2.out.trans K3.out, _, _, true, rfl, .inl ⟨rfl, p', t', by simp [List.getD, hpl], rfl, H4.out⟩⟩
end Go.Proofs.Ytoeeighfjoplhaa

namespace Go.Proofs.Ytoeeighfjoplhaa
open Go.RowKit
/-- What move tells, of seats that have come so far. -/
def TolP (on : Nat) (ss : List St) (p t : Int) (q : Bool) : Prop := (q = true ∧ ∃ p' t' : Nat, p = (p' : Int) ∧ t = (t' : Int) ∧ Mv1 on ss p' t') ∨ (q = false ∧ Mv0 on ss)
theorem move_tol {w : World} {Bd hb n c on : Nat} {A : Option Addr} {bs : Nat → Option Nat} {cp : Nat → Nat} {P : Nat → List Int} {ss : List St} (h : Hl w Bd hb (.slice A n c) bs cp P) (hP : ∀ k, k < 64 → Rk ss k (P k)) (hr : Rw 3 sc st0 w Anyb (.slice A n c) ss) (hn : ss.length = n) (hn2 : n ≤ 900) (ho : U64 on) (hc : ∀ x, U64 (csAt ss x)) :
    Calls Try.prog 33 #[.pointer (some ⟨hb, 0, none⟩), .int .u64 (on : Int)] w fun e w' => ∃ (p t : Int) (q : Bool), e = .returned (.tuple #[.int .i64 p, .int .i64 t, .bool q]) ∧ TolP on ss p t q ∧ Kp No w w' := by
  refine (move_any h hP hr hn hn2 ho hc).mono ?_
  rintro e w' ⟨k3, (⟨x, p, t, rfl, hy⟩ | ⟨rfl, hn⟩)⟩
  · obtain ⟨p', t', e1, e2, hm⟩ := hy.mv1 hP
    exact ⟨p, t, true, rfl, .inl ⟨rfl, p', t', e1, e2, hm⟩, k3⟩
  · exact ⟨0, 0, false, rfl, .inr ⟨rfl, hn.mv0 hP⟩, k3⟩
/-- As far as Settle has come. -/
structure Sti (w W : World) (on Bd hb : Nat) (A : Option Addr) (n c : Nat) (ss s : List St) (m : Nat) (p t : Int) (q : Bool) : Prop where
  mv : Mvs on ss m s
  hl : ∃ bs cp P, Hl W Bd hb (.slice A n c) bs cp P ∧ ∀ k, k < 64 → Rk s k (P k)
  sw : Sw W w.heap.size Bd A n c s
  kp : Kp No w W
  tl : TolP on s p t q
/-- What Settle tells. -/
def SetP (on : Nat) (ss : List St) (w : World) (e : Ending) (w' : World) : Prop := ∃ (A : Option Addr) (c m : Nat) (s : List St), e = .returned (.tuple #[.slice A ss.length c, .int .i64 (m : Int)]) ∧ Rw 3 sc st0 w' Anyb (.slice A ss.length c) s ∧ Mvs on ss m s ∧ Mv0 on s ∧ Kp No w w'
theorem sqs_small (ss : List St) (h : ss.length ≤ 40) : sqs ss ≤ 1000000 := by
  have h1 : ∀ k, cnt ss k ≤ 40 := fun k => by unfold cnt; have := plcs_len ss k ss.length; omega
  have h2 : ∀ n, sumN (fun k => cnt ss k * cnt ss k) n ≤ n * 1600 := fun n => by
    induction n with
    | zero => simp [sumN]
    | succ n ih =>
      unfold sumN
      have := Nat.mul_le_mul (h1 n) (h1 n)
      omega
  have := h2 64
  unfold sqs
  omega
set_option maxRecDepth 100000 in
set_option maxHeartbeats 4000000 in
theorem settle_any {w : World} {v : Value} {on : Nat} {ss : List St} {Pb : Nat → Prop} (hr : Rw 3 sc st0 w Pb v ss) (hn2 : ss.length ≤ 40) (ho : U64 on) (hc : ∀ x, U64 (csAt ss x)) :
    Calls Try.prog 18 #[v, .int .u64 (on : Int)] w (SetP on ss w) := by
  have HCL := hid (cloneS_any hr (by omega))
  have HO := hid ho
  have HC := hid hc
  have HSQ := hid (sqs_small ss hn2)
  obtain ⟨A0, c0, rfl, _⟩ := id hr
  clear hr ho hc
  go_enter Try.func18, Try.ntmps18
  go_upto_region 2 with (first
    | (go_at_call 35; refine HCL.out.mono ?_; rintro e w2 ⟨u, rfl, o2, k2⟩; (obtain ⟨A, c, rfl, hsw⟩ := Sw.of o2); have SW := hid hsw; have K2 := hid k2; clear o2 k2 hsw)
    | (go_at_call 32; refine (enter_any SW.out.rw.anyP rfl hn2).mono ?_; rintro e w3 ⟨hb, bs, cp, P, rfl, h3, r3, k3⟩; have H3 := hid h3; have R3 := hid r3; have K3 := hid k3; clear h3 r3 k3))
  have HZ := hid (show w.heap.size ≤ w2.heap.size from K2.out.size)
  have SW3 := hid (show Sw w3 w.heap.size w2.heap.size A ss.length c ss from ⟨SW.out.rw.kp0 K3.out, fun hp => by
    obtain ⟨sb, e, so, hlt, hge⟩ := SW.out.so hp
    exact ⟨sb, e, so.kp K3.out id, hlt, hge⟩, rfl, SW.out.cb⟩)
  obtain ⟨Bd, hBd⟩ : ∃ q, w2.heap.size = q := ⟨_, rfl⟩
  rw [hBd] at H3 SW3 HZ
  have KK := hid (K2.out.trans K3.out)
  clear SW K2 K3 hBd HCL
  go_upto_region 4 with (go_at_call 33; refine (move_tol H3.out R3.out SW3.out.rw.anyP rfl (by omega) HO.out HC.out).mono ?_; rintro e w4 ⟨p, t, q, rfl, t4, k4⟩; have T4 := hid t4; have K4 := hid k4; clear t4 k4)
  have ST := hid (show Sti w w4 on Bd hb A ss.length c ss ss 0 p t q from ⟨.none, ⟨bs, cp, P, H3.out.kp0 K4.out, R3.out⟩, ⟨SW3.out.rw.kp0 K4.out, fun hp => by
    obtain ⟨sb, e, so, hlt, hge⟩ := SW3.out.so hp
    exact ⟨sb, e, so.kp K4.out id, hlt, hge⟩, rfl, SW3.out.cb⟩, KK.out.trans K4.out, T4.out⟩)
  clear H3 R3 SW3 KK K4 T4
  go_wp2_with fail
  go_loopg [7, 8, 9, 10] (sqs ss) (fun kx s7 s8 s9 s10 wr => ∃ (m : Nat) (p t : Int) (q : Bool) (s : List St), s7 = .int .i64 (m : Int) ∧ s8 = .int .i64 p ∧ s9 = .int .i64 t ∧ s10 = .bool q ∧ kx = sqs s ∧ Hid (Sti w wr on Bd hb A ss.length c ss s m p t q))
  case atStart => exact ⟨0, p, t, q, ss, rfl, rfl, rfl, rfl, rfl, ST⟩
  case round =>
    clear ST
    obtain ⟨m, p, t, q, s, rfl, rfl, rfl, rfl, hgk, ST⟩ := hrel
    have hm : m ≤ 1000000 := by have := ST.out.mv.sq; have := HSQ.out; omega
    have wm := wrapI (x := (m : Int) + 1) (by unfold I64; omega)
    cases q with
    | true =>
      obtain ⟨p', t', rfl, rfl, hm1⟩ : ∃ p' t' : Nat, p = (p' : Int) ∧ t = (t' : Int) ∧ Mv1 on s p' t' := by
        rcases ST.out.tl with ⟨_, h⟩ | ⟨e, _⟩
        · exact h
        · cases e
      have HM1 := hid hm1
      obtain ⟨bs, cp, P, h1, h2⟩ := ST.out.hl
      have hlen := ST.out.mv.len
      have hpl := hm1.pl
      obtain ⟨sb, rfl, so, hlt, hge⟩ := ST.out.sw.so (by omega)
      obtain ⟨k, hk1, hk2, _, hk4⟩ := hm1.frm
      have HPU := hid (put_any h1 h2 so hlt hlen ST.out.sw.cb (by omega) (by omega) hk1 hk2 hm1.t64 (by rintro rfl; omega))
      have HSB := hid (And.intro hlt (And.intro hlen hge))
      have HKW := hid ST.out.kp
      have HMV := hid ST.out.mv
      have HCB := hid ST.out.sw.cb
      clear hm1 h1 h2 so hk2 hk4 ST
      go_upto_region 7 with (go_at_call 36; refine HPU.out.mono ?_; rintro e w5 ⟨rfl, bs5, cp5, P5, pu5, r5⟩; have PU5 := hid pu5; have R5 := hid r5; clear pu5 r5)
      have HMV5 := hid (show Mvs on ss (m + 1) (mvS s p' (t' : Int)) from .next HMV.out HM1.out)
      have HL5 := hid (show (mvS s p' (t' : Int)).length = ss.length from HMV5.out.len)
      have HRW5 := hid (show Rw 3 sc st0 w5 (fun i => i = sb) (.slice (some ⟨sb, 0, none⟩) ss.length c) (mvS s p' (t' : Int)) from by
        have := PU5.out.so.rw (c := c) (by rw [HL5.out]; exact HCB.out.1) HCB.out.2
        rwa [HL5.out] at this)
      have KW5 := hid (show Kp No w w5 from HKW.out.step PU5.out.kp fun i hi e => by
        rcases e with e | e
        · have := HSB.out.2.2
          omega
        · have := HZ.out
          omega)
      go_wp2_with (go_at_call 33; refine (move_tol PU5.out.h R5.out HRW5.out.anyP HL5.out (by omega) HO.out (fun x => by rw [HMV5.out.cs]; exact HC.out x)).mono ?_; rintro e w6 ⟨p6, t6, q6, rfl, tl6, k6⟩; have T6 := hid tl6; have K6 := hid k6; clear tl6 k6)
      have HST := hid (show Sti w w6 on Bd hb (some ⟨sb, 0, none⟩) ss.length c ss (mvS s p' (t' : Int)) (m + 1) p6 t6 q6 from
        ⟨HMV5.out, ⟨bs5, cp5, P5, PU5.out.h.kp0 K6.out, R5.out⟩, ⟨(show Rw 3 sc st0 w5 (fun i => i < Bd) (.slice (some ⟨sb, 0, none⟩) ss.length c) (mvS s p' (t' : Int)) from by
          obtain ⟨A', c', e, g1, g2, g3⟩ := HRW5.out
          refine ⟨A', c', e, g1, g2, fun h0 => ?_⟩
          obtain ⟨b, o, g4, g5, g6, g7⟩ := g3 h0
          exact ⟨b, o, g4, g5, by have := HSB.out.1; omega, g7⟩).kp0 K6.out, fun _ => ⟨sb, rfl, PU5.out.so.kp K6.out id, HSB.out.1, HSB.out.2.2⟩, HL5.out, HCB.out⟩, KW5.out.trans K6.out, T6.out⟩)
      have hsm := sqs_mv HM1.out
      go_roundg (sqs (mvS s p' (t' : Int)))
      case measure => omega
      case rel => exact ⟨m + 1, p6, t6, q6, mvS s p' (t' : Int), by go_num, rfl, rfl, rfl, rfl, HST⟩
    | false =>
      have h0 : Mv0 on s := by
        rcases ST.out.tl with ⟨e, _⟩ | ⟨_, h⟩
        · cases e
        · exact h
      have HM0 := hid h0
      obtain ⟨bs, cp, P, h1, h2⟩ := ST.out.hl
      have hh := h1.head
      clear h0 h1 h2
      go_wp2_with fail
      go_ret2
      exact ⟨A, c, m, s, rfl, ST.out.sw.rw.anyP, ST.out.mv, HM0.out, ST.out.kp⟩

set_option maxRecDepth 100000 in
set_option maxHeartbeats 4000000 in
theorem lloads_any {w : World} {v : Value} {n : Int} {ss : List St} {Pb : Nat → Prop} (hr : Rw 3 sc st0 w Pb v ss) (hn2 : ss.length ≤ 1000) :
    Calls Try.prog 11 #[v, .int .i64 n] w fun e w' => ∃ b c, e = .returned (gsl b (hu n) c) ∧ RowI w' b (hu n) c ((List.range (hu n)).map fun k => (cnt ss k : Int)) ∧ Kp No w w' := by
  have HR := hid hr.oldP
  have HUP := hid (fun W => up_any n W)
  have HLE := hid (fun W => len_any (up n) W (up_U64 n))
  have HAL := hid (show (al (up n)).length = hu n from by
    have h1 := nodup_le (nums (al (up n))) ((List.range (hu n)).map Int.ofNat) ((nums_rise _).imp fun h => by omega) fun x hx => by
      obtain ⟨i, h1, h2, h3⟩ := mem_alI.1 hx
      rw [up_bit, decide_eq_true_eq] at h3
      exact List.mem_map.2 ⟨i, List.mem_range.2 (by unfold hu; omega), h2.symm⟩
    have h2 := nodup_le ((List.range (hu n)).map Int.ofNat) (nums (al (up n))) (by
      refine List.Pairwise.imp ?_ (List.pairwise_map.2 (List.Pairwise.imp (S := fun a b : Nat => Int.ofNat a < Int.ofNat b) (fun h => by simp; omega) List.pairwise_lt_range))
      intro a b h e
      omega) fun x hx => by
      obtain ⟨i, hi, e⟩ := List.mem_map.1 hx
      have hi := List.mem_range.1 hi
      have := hu_le n
      refine mem_alI.2 ⟨i, by omega, e.symm, ?_⟩
      rw [up_bit]
      refine decide_eq_true ⟨by omega, ?_⟩
      unfold hu at hi
      omega
    rw [nums_len] at h1 h2
    simp only [List.length_map, List.length_range] at h1 h2
    omega)
  have HHA := hid (fun (W : World) (x : Int) => has_any (up n) x W (up_U64 n))
  have hH64 := hu_le n
  have hmk : ∀ w, (Instr.makeSlice 24 (.int .i64 ((hu n : Nat) : Int)) (.int .i64 ((hu n : Nat) : Int))).run Try.prog w = .ok (.slice (some ⟨w.heap.size, 0, none⟩) (hu n) (hu n)) (w.alloc (.cells (z0s (hu n)) 3)) := fun w => mk_ints (n := hu n) (by omega) w
  obtain ⟨A, c, rfl, _⟩ := id hr
  clear hr
  go_enter Try.func11, Try.ntmps11
  go_upto_region 3 with (first
    | (go_at_call 25; refine (HUP.out _).mono ?_; rintro e w2 ⟨rfl, rfl⟩)
    | (go_at_call 26; refine (HLE.out _).mono ?_; rw [HAL.out]; rintro e w3 ⟨rfl, k3⟩; have K3 := hid k3; clear k3))
  clear hmk
  obtain ⟨N, hN⟩ : ∃ N, hu n = N := ⟨_, rfl⟩
  rw [hN] at hH64 ⊢
  have HNN := hid hN
  clear hN
  have K4 := hid (K3.out.trans ((Kp.refl No w3).alloc (.cells (z0s N) 3)))
  have B4 := hid (Blk.new w3 3 (z0s N))
  obtain ⟨lb, hlb⟩ : ∃ q, w3.heap.size = q := ⟨_, rfl⟩
  have HLB := hid hlb
  have HLW := hid (show w.heap.size ≤ lb from by have := K3.out.size; omega)
  rw [hlb] at B4 ⊢
  generalize w3.alloc (.cells (z0s N) 3) = w4 at B4 K4 ⊢
  clear hlb
  go_wp2_with fail
  go_loopw [16] (fun u wr => ∃ (i : Nat), u = .int .i64 (i : Int) ∧ i ≤ ss.length ∧ Hid (∃ cs, Blk wr lb 3 cs ∧ cs.size = N ∧ ∀ j, j < N → cs[j]? = some (.int .i64 ((plcs ss j i).length : Int))) ∧ Hid (Kp No w wr)) (fun u _ => ss.length - (vNum u).toNat)
  case atStart => exact ⟨0, rfl, Nat.zero_le _, hid ⟨_, B4.out, z0s_size N, fun j hj => by simp [z0s, hj, plcs_zero]⟩, K4⟩
  case round =>
    obtain ⟨i, rfl, hi, HB, HK⟩ := hrel
    clear B4 K4
    have wi := wrapI (x := (i : Int) + 1) (by unfold I64; omega)
    by_cases hlt : i < ss.length
    · have glt : (i : Int) < (ss.length : Int) := by omega
      obtain ⟨ba, oa, rfl⟩ := HR.out.there (by omega)
      have q0 := HR.out.cell (j := i) (i := 0) HK.out (by omega) (by omega) rfl
      have q1 := HR.out.cell (j := i) (i := 1) HK.out (by omega) (by omega) rfl
      have q2 := HR.out.cell (j := i) (i := 2) HK.out (by omega) (by omega) rfl
      obtain ⟨s, hs⟩ : ∃ s, ss.getD i st0 = s := ⟨_, rfl⟩
      rw [hs] at q0 q1 q2
      have HSS := hid hs
      simp only [sc, Nat.add_zero] at q0 q1 q2
      rw [← Nat.add_assoc] at q1 q2
      clear hs
      have HUN := hid (show ∀ x : Int, isIn (up n) x = decide (0 ≤ x ∧ x < (N : Int)) from fun x => by
        by_cases hx : 0 ≤ x ∧ x < 64
        · obtain ⟨k, rfl⟩ : ∃ k : Nat, x = (k : Int) := ⟨x.toNat, by omega⟩
          rw [isIn_nat _ _ (by omega), up_bit]
          congr 1
          have := HNN.out
          unfold hu at this
          simp only [eq_iff_iff]
          omega
        · rw [isIn_out _ _ hx]
          refine (decide_eq_false ?_).symm
          omega)
      by_cases hin : 0 ≤ s.core ∧ s.core < (N : Int)
      · obtain ⟨k, hk⟩ : ∃ k : Nat, s.core = (k : Int) := ⟨s.core.toNat, by omega⟩
        have HKC := hid hk
        rw [hk] at q1 hin
        have hisin : isIn (up n) (k : Int) = true := by rw [HUN.out]; exact decide_eq_true hin
        obtain ⟨cs, hb1, hsz, hcs⟩ := HB.out
        have HB1 := hid (hb1.kp0 ((Kp.refl No wr).alloc (.cells #[.int .i64 s.id, .int .i64 (k : Int), .int .u64 (s.cs : Int)] 38)))
        have HCS := hid hcs
        have gk : (k : Int) < (N : Int) := hin.2
        have hck := hcs k (by omega)
        have cck := HB1.out.cell k
        rw [hck] at cck
        have fck := HB1.out.frozen k
        have hpl := plcs_len ss k i
        have hwl := wrapI (x := ((plcs ss k i).length : Int) + 1) (by unfold I64; omega)
        clear hb1 hcs HB hck
        go_wp2_with (first | (go_at_call 27; refine (HHA.out _ _).mono ?_; rw [hisin]; rintro e w5 ⟨rfl, rfl⟩))
        go_roundw
        case rel =>
          refine ⟨i + 1, by go_num, by omega, hid ⟨_, HB1.out.put k _, by rw [Array.size_setIfInBounds]; exact hsz, fun j hj => ?_⟩, hid ((HK.out.alloc _).step (Kp.set1 lb k _ _) fun a ha e => by
            have e : a = lb := e
            have := HLW.out
            omega)⟩
          rw [plcs_succ, HSS.out, HKC.out]
          by_cases e : j = k
          · subst e
            rw [Array.getElem?_setIfInBounds_self, if_pos rfl, List.length_append]
            simp [hsz, hj]
          · rw [Array.getElem?_setIfInBounds_ne (fun q => e q.symm), if_neg (by omega), List.append_nil]
            exact HCS.out j hj
        case measure => simp [vNum] <;> omega
      · have hisin : isIn (up n) s.core = false := by rw [HUN.out]; exact decide_eq_false hin
        obtain ⟨cs, hb1, hsz, hcs⟩ := HB.out
        have HB1 := hid (hb1.kp0 ((Kp.refl No wr).alloc (.cells #[.int .i64 s.id, .int .i64 s.core, .int .u64 (s.cs : Int)] 38)))
        have HCS := hid hcs
        clear hb1 hcs HB
        go_wp2_with (first | (go_at_call 27; refine (HHA.out _ _).mono ?_; rw [hisin]; rintro e w5 ⟨rfl, rfl⟩))
        go_roundw
        case rel =>
          refine ⟨i + 1, by go_num, by omega, hid ⟨_, HB1.out, hsz, fun j hj => ?_⟩, hid (HK.out.alloc _)⟩
          rw [plcs_succ, HSS.out, if_neg (by omega), List.append_nil]
          exact HCS.out j hj
        case measure => simp [vNum] <;> omega
    · obtain rfl : i = ss.length := by omega
      have glt : ¬ (ss.length : Int) < (ss.length : Int) := by omega
      go_wp2_with fail
      go_ret
      obtain ⟨cs, hb1, hsz, hcs⟩ := HB.out
      have hNN := HNN.out
      subst hNN
      refine ⟨some lb, hu n, rfl, ⟨by simp, Nat.le_refl _, by simp only [maxLen]; omega, cs, hb1, hsz, fun j hj => ?_⟩, HK.out⟩
      rw [hcs j hj]
      simp [List.getD, hj, cnt]
end Go.Proofs.Ytoeeighfjoplhaa

/-
  PPack PSame: texts laid into one.
-/
import Derived.Test.YtggmdgdgljlddaaGreatDoorPSec

/-
  Contract of the document's Pack.
-/
namespace Go.Proofs.YtggmdgdgljlddaaGreatDoor
open Go.RowKit

/-- Bytes that were just laid in a block of their own. -/
theorem Own.laid (w : World) (e : TypeId) (xs : List Int) {n : Nat} (hn : xs.length = n) (hm : n ≤ maxLen) (hx : ∀ x ∈ xs, 0 ≤ x ∧ x ≤ 255) (cs : Array Value) (hc : cs = (xs.map (Value.int .u8)).toArray) :
    Own (w.alloc (.cells cs e)) w.heap.size e (.slice (some ⟨w.heap.size, 0, none⟩) n n) xs := by
  subst hn hc
  exact ⟨⟨by simp, .inr ⟨w.heap.size, xs.length, _, rfl, Nat.le_refl _, heap_alloc_new w _, Nat.le_refl _, hm, by simp, by rw [Nat.mul_one]; exact List.take_of_length_le (by simp)⟩⟩, hx⟩

section
variable {w w' : World} {P S : Nat → Prop} {v : Value} {ss : List Sv}
theorem getD_sn {k : Nat} (hk : k < ss.length) : (ss.map sn)[k]? = some (sn (ss.getD k sv0)) := by
  rw [List.getElem?_map, List.getElem?_eq_getElem hk]
  simp [List.getD, hk]
theorem take_sn {k : Nat} (hk : k < ss.length) : (ss.map sn).take (k + 1) = (ss.map sn).take k ++ [sn (ss.getD k sv0)] := by
  rw [List.take_add_one, getD_sn hk]
  rfl
theorem tabl_snoc {k : Nat} (hk : k < ss.length) : tabl ((ss.map sn).take (k + 1)) = tabl ((ss.map sn).take k) ++ ((ss.getD k sv0).k :: (dg ((ss.getD k sv0).bl.length : Int) 2 ++ ck4 (ss.getD k sv0).bl)) := by
  rw [take_sn hk, tabl, List.flatMap_append, ← tabl]
  simp [sn, ent]
theorem bods_snoc {k : Nat} (hk : k < ss.length) : bods ((ss.map sn).take (k + 1)) = bods ((ss.map sn).take k) ++ (ss.getD k sv0).bl := by
  rw [take_sn hk, bods, List.flatMap_append, ← bods]
  simp [sn]
theorem bods_le {l : List Sn} (h : ∀ s ∈ l, s.body.length ≤ 65535) : (bods l).length ≤ 65535 * l.length := by
  induction l with
  | nil => simp [bods]
  | cons s l ih =>
    rw [bods, List.flatMap_cons, ← bods, List.length_append, List.length_cons]
    have := h s (List.mem_cons_self ..)
    have := ih fun x hx => h x (List.mem_cons_of_mem _ hx)
    omega
theorem bods_to (h : Can (ss.map sn)) (k : Nat) : (bods ((ss.map sn).take k)).length ≤ 1048560 := by
  have h1 := bods_le (l := (ss.map sn).take k) fun s hs => h.long s (List.mem_of_mem_take hs)
  have h2 := h.len
  rw [List.length_take] at h1
  omega
theorem tabl_to (h : Can (ss.map sn)) (k : Nat) : (tabl ((ss.map sn).take k)).length ≤ 112 := by
  rw [tabl_len, List.length_take]
  have := h.len
  omega
theorem can_at (h : Can (ss.map sn)) {k : Nat} (hk : k < ss.length) : 1 ≤ (ss.getD k sv0).k ∧ (ss.getD k sv0).k ≤ 255 ∧ (ss.getD k sv0).bl.length ≤ 65535 := by
  have hm : sn (ss.getD k sv0) ∈ ss.map sn := List.mem_of_getElem? (getD_sn hk)
  have h1 := risen_rg h.rise _ hm
  exact ⟨h1.1, h1.2, h.long _ hm⟩

theorem rpack_no (h : Ps w P v ss) {x : Int} (hx : wrong (ss.map sn) = x) (h0 : x ≠ 0) :
    Calls Tryz.prog 20 #[v] w fun e w' => e = .returned (.tuple #[.slice none 0 0, .int .i64 x]) ∧ ∃ n, w' = w.drewN n := by
  have HO := hid h
  have HX := hid hx
  have n0 : (x != 0) = true := by simp [h0]
  clear h hx
  go_enter Tryz.func20, Tryz.ntmps20
  go_wp2_with fail
  refine (rwrong_any HO.out).mono ?_
  rintro e w' ⟨rfl, q, rfl⟩
  rw [HX.out]
  go_wp2
  go_ret2
  exact ⟨rfl, q, rfl⟩

def PackPost (ss : List Sv) (w : World) (e : Ending) (w' : World) : Prop := ∃ u, e = .returned (.tuple #[u, .int .i64 0]) ∧ Own w' w.heap.size 5 u (image (ss.map sn)) ∧ Kp No w w'
theorem rpack_is (h : Ps w P v ss) (hC : Can (ss.map sn)) : Calls Tryz.prog 20 #[v] w (PackPost ss w) := by
  obtain ⟨n, hn⟩ : ∃ n, ss.length = n := ⟨_, rfl⟩
  have h16 : n ≤ 16 := by have := hC.len; simpa [hn] using this
  obtain ⟨A, c, rfl, hc, hm⟩ := h.form hn
  have HN := hid hn
  have HO := hid h
  have HC := hid hC
  have HX := hid ((can_iff _).2 hC)
  have u8n : IntKind.u8.wrap (n : Int) = (n : Int) := by rw [u8w]; omega
  have HL := hid (show (ss.map sn).length = n by simpa using hn)
  clear hn h hC
  go_enter Tryz.func20, Tryz.ntmps20
  go_wp2_with fail
  refine (rwrong_any HO.out).mono ?_
  rintro e w' ⟨rfl, q, rfl⟩
  rw [HX.out]
  have HO1 := hid (HO.out.kp0 ((Kp.refl No w).drewN q))
  have K1 := (Kp.refl No w).drewN q
  have hsz : (w.drewN q).heap.size = w.heap.size := rfl
  generalize w.drewN q = w1 at K1 HO1 hsz ⊢
  go_wp2_with fail
  have hbs := Bs.hdr h16
  have own0 := Own.laid w1 5 (hdr n) (n := 5) rfl (by unfold maxLen; omega) hbs #[.int .u8 68, .int .u8 80, .int .u8 90, .int .u8 49, .int .u8 (n : Int)] rfl
  rw [hsz] at own0
  have K1a := K1.alloc (.cells #[.int .u8 68, .int .u8 80, .int .u8 90, .int .u8 49, .int .u8 (n : Int)] 5)
  generalize w1.alloc _ = w1a at own0 K1a ⊢
  refine (check_any (S := Anyb) (own0.byt fun _ _ => trivial)).mono ?_
  rintro e w2 ⟨u, rfl, own2, k2⟩
  have K2 := K1a.trans k2
  have own0 := own0.kp k2 fun _ _ h => h
  have HB2 := hid (own2.byt (P := Anyb) fun _ _ => trivial)
  obtain ⟨A2, c2, rfl⟩ := own2.formN (n := 4) (ck4_len _)
  clear own2 k2 K1a K1 hsz
  have H0 := hid own0
  have H2 := hid K2
  clear own0 K2
  go_wp2_with (first
    | (at_builtin
       refine wp_app isU8 rfl (.tmp 17) (.tmp 19) rfl (base := w.heap.size) (xs := hdr n) (ys := ck4 (hdr n)) (by exact H0.out) (by exact HB2.out) (by rw [ck4_len]; simp [hdr]) (by exact H2.out.size) ?_
       intro v3 w3 own3 k3
       have H3 := hid (H2.out.step k3 fun i hi h => by omega)
       have O3 := hid own3
       clear own3 k3))
  have HH := hid (show hdr n ++ ck4 (hdr n) = hdr n ++ ck4 (hdr n) ++ tabl ((ss.map sn).take 0) by simp [tabl])
  have H9 := hid (show (hdr n ++ ck4 (hdr n)).length = 9 by rw [List.length_append, ck4_len]; rfl)
  go_loopw [5, 6] (fun v i w' => ∃ k : Nat, k ≤ n ∧ i = .int .i64 (k : Int) ∧ Own w' w.heap.size 5 v (hdr n ++ ck4 (hdr n) ++ tabl ((ss.map sn).take k)) ∧ Kp No w w') (fun _ i _ => n - (intOf i).toNat)
  case atStart => exact ⟨0, Nat.zero_le _, rfl, by rw [← HH.out]; exact O3.out, H3.out⟩
  case round =>
    obtain ⟨k, hk, rfl, hown, hkp⟩ := hrel
    clear HH H3 O3 H0 H2 HB2 HO1
    by_cases hkn : k < n
    · have HK := hid (show k < ss.length by rw [HN.out]; exact hkn)
      obtain ⟨x, hx⟩ : ∃ x, (ss.getD k sv0).k = x := ⟨_, rfl⟩
      obtain ⟨nb, hnb⟩ : ∃ nb, (ss.getD k sv0).bl.length = nb := ⟨_, rfl⟩
      obtain ⟨b, o, rfl, ok, c0, c1⟩ := (HO.out.kp0 hkp).at' (k := k) HK.out
      obtain ⟨B, bc, hb, hbc, hbm⟩ := ok.form hnb
      have hcan := can_at HC.out HK.out
      have HT := hid (tabl_snoc HK.out)
      have HTL := hid (tabl_to HC.out k)
      rw [hx, hnb] at hcan HT
      rw [hx] at c0
      rw [hb] at c1
      have HBd := hid (show ∀ w', Kp No w w' → Byt w' P (ss.getD k sv0).bv (ss.getD k sv0).bl from fun w' kk => (HO.out.ok _ (by simp [List.getD, HK.out])).b.kp0 kk)
      have HC1 := hid (show ∀ w', Kp No w w' → w'.cell? ⟨b, o + k * 2 + 1, none⟩ = some (.slice B nb bc) from fun w' kk => by
        obtain ⟨b1, o1, he1, _, _, cc⟩ := (HO.out.kp0 kk).at' (k := k) HK.out
        cases he1
        rw [hb] at cc
        exact cc)
      rw [hb] at HBd
      obtain ⟨bl, hbl⟩ : ∃ bl, (ss.getD k sv0).bl = bl := ⟨_, rfl⟩
      rw [hbl] at HBd HT hnb
      have HD2 := hid (show dg (nb : Int) (hw 2) = dg (nb : Int) 2 from rfl)
      have x8 : IntKind.u8.wrap x = x := by rw [u8w]; omega
      have n64 : IntKind.u64.wrap (nb : Int) = (nb : Int) := by rw [u64w]; omega
      have hki : (k : Int) < (n : Int) := by omega
      have hsum := wrapI (x := (k : Int) + 1) (by unfold I64; omega)
      clear hnb hx hb ok c1 hbl
      obtain ⟨A3, c3, rfl⟩ := hown.formN (n := 9 + 7 * k) (by rw [List.length_append, H9.out, tabl_len, List.length_take, HL.out]; omega)
      have HK0 := hid hkp
      have HW0 := hid hown
      have HXr := hid hcan
      clear hown hkp
      go_wp2_with (first
        | (at_builtin
           refine wp_app isU8 rfl (.tmp 27) (.tmp 34) rfl (base := w.heap.size) (xs := hdr n ++ ck4 (hdr n) ++ tabl ((ss.map sn).take k)) (ys := [x]) (by exact HW0.out.alloc _) (by exact Byt.one (P := Anyb) _ _ _ (by have := HXr.out; omega) trivial) (by rw [List.length_append, H9.out, List.length_singleton]; have := HTL.out; omega) (by have := HK0.out.size; simp; omega) ?_
           intro v1 w1' own1 k1
           have HW1 := hid own1
           have HK1 := hid ((HK0.out.alloc _).step k1 fun i hi h => by omega)
           have c1 := HC1.out _ HK1.out
           clear own1 k1)
        | (go_at_call 19
           refine (digits_any _ 2 _ (by omega)).mono ?_
           rintro e w2' ⟨u2, rfl, own2, k2⟩
           rw [HD2.out] at own2
           have HK2 := hid (HK1.out.trans k2)
           have HU2 := hid (own2.byt (P := Anyb) fun _ _ => trivial)
           have HW2 := hid (HW1.out.kp k2 fun _ _ h => h)
           obtain ⟨A4, c4, rfl⟩ := own2.formN (n := 2) (dg_len 2 _)
           clear own2 k2)
        | (at_builtin
           refine wp_app isU8 rfl (.tmp 36) (.tmp 44) rfl (base := w.heap.size) (xs := hdr n ++ ck4 (hdr n) ++ tabl ((ss.map sn).take k) ++ [x]) (ys := dg (nb : Int) 2) (by exact HW2.out) (by exact HU2.out) (by rw [List.length_append, List.length_append, H9.out, List.length_singleton, dg_len]; have := HTL.out; omega) (by exact HK2.out.size) ?_
           intro v3' w3' own3 k3
           have HW3 := hid own3
           have HK3 := hid (HK2.out.step k3 fun i hi h => by omega)
           have c1 := HC1.out _ HK3.out
           have HB3 := hid (HBd.out _ HK3.out)
           clear own3 k3)
        | (go_at_call 56
           refine (check_any HB3.out).mono ?_
           rintro e w4' ⟨u4, rfl, own4, k4⟩
           have HK4 := hid (HK3.out.trans k4)
           have HU4 := hid (own4.byt (P := Anyb) fun _ _ => trivial)
           have HW4 := hid (HW3.out.kp k4 fun _ _ h => h)
           obtain ⟨A5, c5, rfl⟩ := own4.formN (n := 4) (ck4_len _)
           clear own4 k4)
        | (at_builtin
           refine wp_app isU8 rfl (.tmp 46) (.tmp 52) rfl (base := w.heap.size) (xs := hdr n ++ ck4 (hdr n) ++ tabl ((ss.map sn).take k) ++ [x] ++ dg (nb : Int) 2) (ys := ck4 bl) (by exact HW4.out) (by exact HU4.out) (by rw [List.length_append, List.length_append, List.length_append, H9.out, List.length_singleton, dg_len, ck4_len]; have := HTL.out; omega) (by exact HK4.out.size) ?_
           intro v5' w5' own5 k5
           have HW5 := hid own5
           have HK5 := hid (HK4.out.step k5 fun i hi h => by omega)
           clear own5 k5))
      go_roundw
      case rel =>
        refine ⟨k + 1, by omega, by go_num, ?_, HK5.out⟩
        have := HW5.out
        rw [HT.out]
        simpa [List.append_assoc] using this
      case measure => simp [intOf]; omega
    · have hkk : k = n := by omega
      subst hkk
      clear hk hkn
      have hfr : hdr k ++ ck4 (hdr k) ++ tabl ((ss.map sn).take k) = front (ss.map sn) := by
        rw [List.take_of_length_le (by rw [HL.out]; exact Nat.le_refl _)]
        unfold front
        rw [HL.out]
      rw [hfr] at hown
      have HFL := hid (show (front (ss.map sn)).length = 9 + 7 * k by rw [front_len, HL.out])
      have HFB := hid (hown.byt (P := Anyb) fun _ _ => trivial)
      have HW1 := hid hown
      have HK1 := hid hkp
      obtain ⟨A3, c3, rfl⟩ := hown.formN (n := 9 + 7 * k) HFL.out
      clear hfr hown hkp
      go_wp2_with (first
        | (go_at_call 56
           refine (check_any HFB.out).mono ?_
           rintro e w4' ⟨u4, rfl, own4, k4⟩
           have HK4 := hid (HK1.out.trans k4)
           have HU4 := hid (own4.byt (P := Anyb) fun _ _ => trivial)
           have HW4 := hid (HW1.out.kp k4 fun _ _ h => h)
           obtain ⟨A5, c5, rfl⟩ := own4.formN (n := 4) (ck4_len _)
           clear own4 k4)
        | (at_builtin
           refine wp_app isU8 rfl (.tmp 54) (.tmp 56) rfl (base := w.heap.size) (xs := front (ss.map sn)) (ys := ck4 (front (ss.map sn))) (by exact HW4.out) (by exact HU4.out) (by rw [HFL.out, ck4_len]; omega) (by exact HK4.out.size) ?_
           intro v5' w5' own5 k5
           have HW5 := hid own5
           have HK5 := hid (HK4.out.step k5 fun i hi h => by omega)
           clear own5 k5))
      have HGL := hid (show (front (ss.map sn) ++ ck4 (front (ss.map sn))).length = 13 + 7 * k by rw [List.length_append, HFL.out, ck4_len]; omega)
      have HH0 := hid (show front (ss.map sn) ++ ck4 (front (ss.map sn)) = front (ss.map sn) ++ ck4 (front (ss.map sn)) ++ bods ((ss.map sn).take 0) by simp [bods])
      go_loopw [5, 7] (fun v i w' => ∃ j : Nat, j ≤ k ∧ i = .int .i64 (j : Int) ∧ Own w' w.heap.size 5 v (front (ss.map sn) ++ ck4 (front (ss.map sn)) ++ bods ((ss.map sn).take j)) ∧ Kp No w w') (fun _ i _ => k - (intOf i).toNat)
      case atStart => exact ⟨0, Nat.zero_le _, rfl, by rw [← HH0.out]; exact HW5.out, HK5.out⟩
      case round =>
        obtain ⟨j, hj, rfl, hown, hkp⟩ := hrel
        clear HH0 HW5 HK5 HW4 HU4 HK4 HW1 HK1 HFB
        by_cases hjk : j < k
        · have HJ := hid (show j < ss.length by rw [HN.out]; exact hjk)
          obtain ⟨b, o, rfl, ok, _, c1⟩ := (HO.out.kp0 hkp).at' (k := j) HJ.out
          obtain ⟨B, bc, hb, hbc, hbm⟩ := ok.form rfl
          have hcan := can_at HC.out HJ.out
          have HT := hid (bods_snoc HJ.out)
          have HBL := hid (bods_to HC.out j)
          have HBd := hid ok.b
          have HV0 := hid hown
          have HK0 := hid hkp
          obtain ⟨bl, hbl⟩ : ∃ bl, (ss.getD j sv0).bl = bl := ⟨_, rfl⟩
          rw [hbl] at HBd HT hb hbc hcan
          rw [hb] at c1 HBd
          have hn3 := hcan.2.2
          have hki : (j : Int) < (k : Int) := by omega
          have hsum := wrapI (x := (j : Int) + 1) (by unfold I64; omega)
          clear hb hbl ok hown hkp hcan
          go_wp2_with (first
            | (at_builtin
               refine wp_app isU8 rfl (.tmp 64) (.tmp 69) rfl (base := w.heap.size) (xs := front (ss.map sn) ++ ck4 (front (ss.map sn)) ++ bods ((ss.map sn).take j)) (ys := bl) (by exact HV0.out) (by exact HBd.out) (by rw [List.length_append, HGL.out]; have := HBL.out; omega) (by exact HK0.out.size) ?_
               intro v6 w6 own6 k6
               have HV6 := hid own6
               have HK6 := hid (HK0.out.step k6 fun i hi h => by omega)
               clear own6 k6))
          go_roundw
          case rel =>
            refine ⟨j + 1, by omega, by go_num, ?_, HK6.out⟩
            rw [HT.out, ← List.append_assoc]
            exact HV6.out
          case measure => simp [intOf]; omega
        · have hjj : j = k := by omega
          subst hjj
          have himg : front (ss.map sn) ++ ck4 (front (ss.map sn)) ++ bods ((ss.map sn).take j) = image (ss.map sn) := by
            rw [List.take_of_length_le (by rw [HL.out]; exact Nat.le_refl _)]
            rfl
          rw [himg] at hown
          clear himg
          go_wp2
          go_ret2
          exact ⟨_, rfl, hown, hkp⟩
end
end Go.Proofs.YtggmdgdgljlddaaGreatDoor

/-
  Contract of the document's Same of sections.
-/
namespace Go.Proofs.YtggmdgdgljlddaaGreatDoor
open Go.RowKit

section
variable {w w' : World} {P S T : Nat → Prop} {v u : Value} {ss tt : List Sv}
theorem same_bool {xs ys : List Int} {q : Bool} (h : Byt w S v xs) (h' : Byt w T u ys) (hq : decide (xs = ys) = q) : Calls Tryz.prog 9 #[v, u] w fun e w' => e = .returned (.bool q) ∧ ∃ n, w' = w.drewN n :=
  (same_any v u xs ys w h h').mono fun e w' ⟨he, hn⟩ => ⟨by rw [he, hq], hn⟩
theorem sn_eq {k : Nat} (hk : k < ss.length) (hk' : k < tt.length) (h : (ss.map sn) = (tt.map sn)) : (ss.getD k sv0).k = (tt.getD k sv0).k ∧ (ss.getD k sv0).bl = (tt.getD k sv0).bl := by
  have h1 := getD_sn hk
  rw [h, getD_sn hk'] at h1
  have := Option.some.inj h1
  unfold sn at this
  simp only [Sn.mk.injEq] at this
  exact ⟨this.1.symm, this.2.symm⟩
end
end Go.Proofs.YtggmdgdgljlddaaGreatDoor

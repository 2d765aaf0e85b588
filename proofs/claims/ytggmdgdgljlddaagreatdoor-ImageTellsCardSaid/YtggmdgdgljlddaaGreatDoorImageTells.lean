/-
  The last step of the proof of ImageTells: from its walk to the given statement. For every input the call returns true and leaves its arguments as they were. Condition: the listed package-level variables start as the program's text lays them; the card ties that to the text. (The frame is after the shell of the kit's proof-skeleton and the worked text Pinup.)
-/
import Derived.Test.YtggmdgdgljlddaaGreatDoorJK
import Derived.Test.YtggmdgdgljlddaaGreatDoorZSame
import Derived.Test.YtggmdgdgljlddaaGreatDoorJRa
import Derived.Test.YtggmdgdgljlddaaGreatDoorTail
import Derived.Test.YtggmdgdgljlddaaGreatDoorCrcTab
import Derived.Test.YtggmdgdgljlddaaGreatDoorTie
import Derived.Test.YtggmdgdgljlddaaGreatDoorCards
import Derived.SevenTiedAt
import Derived.Test.YtggmdgdgljlddaaGreatDoorRows
import Derived.Test.YtggmdgdgljlddaaGreatDoorArgs
import Derived.ProofKit
import Derived.OpenShut
import Derived.ShutString
import Derived.ChangeOld
/-
  The walk of ImageBack.
-/
namespace Go.Proofs.YtggmdgdgljlddaaGreatDoor
open Go.RowKit Go.Shelf

theorem same_is {w : World} {P Q : Nat → Prop} {v u : Value} {gs gs' : List GS} {ts ts' : List TS} {q : Bool} (h : Sce w P v gs ts) (h' : Sce w Q u gs' ts') (hq : decide (gs = gs' ∧ ts = ts') = q) :
    Calls Tryz.prog 13 #[v, u] w fun e w' => e = .returned (.bool q) ∧ Kp No w w' := by
  rw [← hq]
  exact zsame_any h h'
theorem few_is {w : World} {P : Nat → Prop} {v : Value} {gs : List GS} {ts : List TS} {q : Bool} (h : Sce w P v gs ts) (hq : few gs ts = q) :
    Calls Tryz.prog 6 #[v] w fun e w' => e = .returned (.bool q) ∧ Kp No w w' := by
  rw [← hq]
  exact zfew_any h
theorem few_bd {gs : List GS} {ts : List TS} (h : few gs ts = true) : gs.length ≤ 30 ∧ ts.length ≤ 30 := by
  unfold few at h
  simpa using h
theorem encZ {gs : List GS} {ts : List TS} (h : encE gs ts = 0) : checkS gs ts = 0 ∧ Can (secs gs ts) := by
  unfold encE at h
  by_cases h0 : checkS gs ts = 0
  · rw [if_pos h0] at h
    exact ⟨h0, (can_iff _).1 h⟩
  · rw [if_neg h0] at h
    exact absurd h h0
theorem enc_few {gs : List GS} {ts : List TS} (h : few gs ts = true) : encE gs ts = checkS gs ts := by
  obtain ⟨h1, h2⟩ := few_bd h
  unfold encE
  by_cases h0 : checkS gs ts = 0
  · rw [if_pos h0, (can_iff _).2 (secs_can h1 h2), h0]
  · rw [if_neg h0]
end Go.Proofs.YtggmdgdgljlddaaGreatDoor

/-
  The walk of ImageTells.
-/
namespace Go.Proofs.YtggmdgdgljlddaaGreatDoor
open Go.RowKit Go.Shelf

section
variable {w : World} {P : Nat → Prop} {v : Value} {gs : List GS} {ts : List TS}
theorem rencode_good (h : Sce w P v gs ts) (hco : ∀ t ∈ ts, 0 ≤ t.co ∧ t.co ≤ 18446744073709551615) (hl : gs.length ≤ 1000000) (hlt : ts.length ≤ 1000000) (h0 : checkS gs ts = 0) (hC : Can (secs gs ts)) :
    Calls Tryz.prog 8 #[v] w fun e w' => ∃ u, e = .returned (.tuple #[u, .int .i64 0]) ∧ Own w' w.heap.size 5 u (image (secs gs ts)) ∧ Kp No w w' := by
  refine (rencode_any h hco hl hlt).mono ?_
  rintro e w' ⟨hk, ⟨_, _, u, rfl, ho⟩ | ⟨x, hx, hx0, rfl⟩⟩
  · exact ⟨u, rfl, ho, hk⟩
  · unfold encE at hx
    rw [if_pos h0, (can_iff _).2 hC] at hx
    exact absurd hx.symm hx0
theorem rencode_bad {x : Int} (h : Sce w P v gs ts) (hco : ∀ t ∈ ts, 0 ≤ t.co ∧ t.co ≤ 18446744073709551615) (hl : gs.length ≤ 1000000) (hlt : ts.length ≤ 1000000) (hx : encE gs ts = x) (hx0 : x ≠ 0) :
    Calls Tryz.prog 8 #[v] w fun e w' => e = .returned (.tuple #[.slice none 0 0, .int .i64 x]) ∧ Kp No w w' := by
  refine (rencode_any h hco hl hlt).mono ?_
  rintro e w' ⟨hk, ⟨h1, h2, _⟩ | ⟨y, hy, _, rfl⟩⟩
  · unfold encE at hx
    rw [if_pos h1, (can_iff _).2 h2] at hx
    exact absurd hx.symm hx0
  · rw [← hx, ← hy]
    exact ⟨rfl, hk⟩
theorem same_yes {S T : Nat → Prop} {u : Value} {xs : List Int} (h : Byt w S v xs) (h' : Byt w T u xs) : Calls Tryz.prog 9 #[v, u] w fun e w' => e = .returned (.bool true) ∧ Kp No w w' :=
  (same_bool h h' (q := true) (by simp)).mono fun _ _ ⟨he, n, hk⟩ => ⟨he, by rw [hk]; exact (Kp.refl No w).drewN n⟩
theorem size_is {z : Int} (h : Sce w P v gs ts) (hl : gs.length ≤ 4096) (hlt : ts.length ≤ 4096) (hz : 41 + (gs.length : Int) * 21 + (ts.length : Int) * 35 = z) : Calls Tryz.prog 10 #[v] w fun e w' => e = .returned (.int .i64 z) ∧ Kp No w w' := by
  rw [← hz]
  exact size_any h hl hlt
end
set_option maxRecDepth 100000 in
set_option maxHeartbeats 4000000 in
theorem imageTells_walk (w : World) {v : Value} {gs : List GS} {ts : List TS} (ht : Tab w) (h : SnI w v gs ts) :
    Calls Tryz.prog 3 #[v] w fun e w' => e = .returned (.bool true) ∧ Kp No w w' := by
  obtain ⟨hS, hGI, hTI⟩ := h
  obtain ⟨vg, vt, rfl, hg, htt⟩ := id hS
  have hp : ∀ g ∈ gs, I64 g.id ∧ I64 g.par := fun g hg => ⟨(hGI g hg).id, (hGI g hg).par⟩
  have hpt : ∀ t ∈ ts, I64 t.gr := fun t ht => (hTI t ht).gr
  have hco : ∀ t ∈ ts, 0 ≤ t.co ∧ t.co ≤ 18446744073709551615 := fun t ht => by have := (hTI t ht).co; omega
  have k0 := (Kp.refl No w).alloc (.cells #[vg, vt] 25)
  have b0 := Blk.new w 25 #[vg, vt]
  obtain ⟨w0, hw0⟩ : ∃ w0, w.alloc (.cells #[vg, vt] 25) = w0 := ⟨_, rfl⟩
  rw [hw0] at k0 b0
  have s0 := b0.cell 0
  have s1 := b0.cell 1
  simp only [List.getElem?_toArray, List.getElem?_cons_zero, List.getElem?_cons_succ] at s0 s1
  have K0 := hid k0
  have B0 := hid b0
  have HS := hid (hS.kp0 k0)
  have HTB := hid (ht.kp0 k0)
  obtain ⟨fb, hfb⟩ : ∃ fb, few gs ts = fb := ⟨_, rfl⟩
  obtain ⟨ce, hce⟩ : ∃ ce, checkS gs ts = ce := ⟨_, rfl⟩
  obtain ⟨x, hx⟩ : ∃ x, encE gs ts = x := ⟨_, rfl⟩
  have HF := hid (fun (W : World) (k : Kp No w0 W) => few_is (HS.out.kp0 k) hfb)
  have HC := hid (fun (W : World) (k : Kp No w0 W) => zcheck_is (HS.out.kp0 k) hp hpt hce)
  have HEB := hid (fun (hx0 : x ≠ 0) (W : World) (k : Kp No w0 W) => encode_bad (HTB.out.kp0 k) (HS.out.kp0 k) hp hpt hco hx hx0)
  have HEG := hid (fun (h0 : checkS gs ts = 0) (hC : Can (secs gs ts)) (W : World) (k : Kp No w0 W) => encode_good (HTB.out.kp0 k) (HS.out.kp0 k) hp hpt hco h0 hC)
  have HCE := hid hce
  have HX := hid hx
  have HRB := hid (fun (hx0 : x ≠ 0) (hl : gs.length ≤ 1000000) (hlt : ts.length ≤ 1000000) (W : World) (k : Kp No w0 W) => rencode_bad (HS.out.kp0 k) hco hl hlt hx hx0)
  have HRG := hid (fun (h0 : checkS gs ts = 0) (hC : Can (secs gs ts)) (hl : gs.length ≤ 1000000) (hlt : ts.length ≤ 1000000) (W : World) (k : Kp No w0 W) => rencode_good (HS.out.kp0 k) hco hl hlt h0 hC)
  have HSI := hid (fun (z : Int) (hl : gs.length ≤ 4096) (hlt : ts.length ≤ 4096) (hz : 41 + (gs.length : Int) * 21 + (ts.length : Int) * 35 = z) (W : World) (k : Kp No w0 W) => size_is (HS.out.kp0 k) hl hlt hz)
  have HFB := hid hfb
  have HCO := hid hco
  obtain ⟨A, c, rfl, _⟩ := hg
  obtain ⟨A2, c2, rfl, _⟩ := htt
  obtain ⟨n, hn⟩ : ∃ n, gs.length = n := ⟨_, rfl⟩
  obtain ⟨m, hm⟩ : ∃ m, ts.length = m := ⟨_, rfl⟩
  rw [hn] at HS HF HC HEB HEG HRB HRG HSI s0 hw0 B0 ⊢
  rw [hm] at HS HF HC HEB HEG HRB HRG HSI s1 hw0 B0 ⊢
  have HN := hid hn
  have HM := hid hm
  clear hS hGI hTI hp hpt hco k0 b0 hfb hce hn hm ht hx
  cases fb
  · go_enter Tryz.func3, Tryz.ntmps3
    go_upto_region 1 with fail
    clear hw0
    go_wp2_with (first
      | (go_at_call 5
         with_reducible refine (iawake_any HTB.out).mono ?_
         rintro e w1 ⟨rfl, k1⟩
         have K1 := hid k1
         have b1 := B0.out.kp0 K1.out
         have s10 := b1.cell 0
         have s11 := b1.cell 1
         simp only [List.getElem?_toArray, List.getElem?_cons_zero, List.getElem?_cons_succ] at s10 s11
         clear b1
         clear k1)
      | (go_at_call 6
         with_reducible refine (HF.out _ K1.out).mono ?_
         rintro e w2 ⟨rfl, k2⟩
         have K2 := hid (K1.out.trans k2)
         have b2 := B0.out.kp0 K2.out
         have s20 := b2.cell 0
         have s21 := b2.cell 1
         simp only [List.getElem?_toArray, List.getElem?_cons_zero, List.getElem?_cons_succ] at s20 s21
         clear b2
         clear k2))
    go_ret
    exact ⟨rfl, K0.out.trans K2.out⟩
  · obtain ⟨hn30, hm30⟩ := few_bd HFB.out
    rw [HN.out] at hn30
    rw [HM.out] at hm30
    have HZ := hid (HSI.out (41 + 21 * (n : Int) + 35 * (m : Int)) (by omega) (by omega) (by omega))
    by_cases hx0 : x = 0
    · subst hx0
      obtain ⟨e1, e2⟩ := encZ HX.out
      obtain ⟨L, hL⟩ : ∃ L, (image (secs gs ts)).length = L := ⟨_, rfl⟩
      have HIL := hid hL
      have hlz : ((L : Int) == 41 + 21 * (n : Int) + 35 * (m : Int)) = true := by rw [beq_iff_eq, ← hL, secs_image_len, HN.out, HM.out]; omega
      have HE := hid (HEG.out e1 e2)
      have HR := hid (HRG.out e1 e2 (by omega) (by omega))
      have hw1 := wrapI (x := 21 * (n : Int)) (by unfold I64; omega)
      have hw2 := wrapI (x := 41 + 21 * (n : Int)) (by unfold I64; omega)
      have hw3 := wrapI (x := 35 * (m : Int)) (by unfold I64; omega)
      have hw4 := wrapI (x := 41 + 21 * (n : Int) + 35 * (m : Int)) (by unfold I64; omega)
      have RDX := hid (fun (W : World) (k : Kp No w0 W) => show W.cell? ⟨w.heap.size, 0, none⟩ = some (.slice A n c) ∧ W.cell? ⟨w.heap.size, 1, none⟩ = some (.slice A2 m c2) from ⟨(B0.out.kp0 k).cell 0, (B0.out.kp0 k).cell 1⟩)
      clear e1 e2 hL
      go_enter Tryz.func3, Tryz.ntmps3
      go_upto_region 1 with fail
      clear hw0
      go_upto_region 7 with (first
        | (go_at_call 5
           with_reducible refine (iawake_any HTB.out).mono ?_
           rintro e w1 ⟨rfl, k1⟩
           have K1 := hid k1
           have b1 := B0.out.kp0 K1.out
           have s10 := b1.cell 0
           have s11 := b1.cell 1
           simp only [List.getElem?_toArray, List.getElem?_cons_zero, List.getElem?_cons_succ] at s10 s11
           clear b1
           clear k1)
        | (go_at_call 6
           with_reducible refine (HF.out _ K1.out).mono ?_
           rintro e w2 ⟨rfl, k2⟩
           have K2 := hid (K1.out.trans k2)
           have b2 := B0.out.kp0 K2.out
           have s20 := b2.cell 0
           have s21 := b2.cell 1
           simp only [List.getElem?_toArray, List.getElem?_cons_zero, List.getElem?_cons_succ] at s20 s21
           clear b2
           clear k2)
        | (go_at_call 7
           with_reducible refine (HE.out _ K2.out).mono ?_
           rintro e w3 ⟨u3, rfl, o3, k3⟩
           have K3 := hid (K2.out.trans k3)
           obtain ⟨Ai, ci, rfl⟩ := o3.formN HIL.out
           have b3 := B0.out.kp0 K3.out
           have s30 := b3.cell 0
           have s31 := b3.cell 1
           simp only [List.getElem?_toArray, List.getElem?_cons_zero, List.getElem?_cons_succ] at s30 s31
           clear b3
           have O3 := hid (o3.byt (P := Anyb) fun _ _ => trivial)
           clear k3 o3)
        | (go_at_call 8
           with_reducible refine (HR.out _ K3.out).mono ?_
           rintro e w4 ⟨u4, rfl, o4, k4⟩
           have K4 := hid (K3.out.trans k4)
           obtain ⟨Aj, cj, rfl⟩ := o4.formN HIL.out
           have O34 := hid (O3.out.kp k4 fun _ _ h => h)
           have O4 := hid (o4.byt (P := Anyb) fun _ _ => trivial)
           have b4 := B0.out.kp0 K4.out
           have s40 := b4.cell 0
           have s41 := b4.cell 1
           simp only [List.getElem?_toArray, List.getElem?_cons_zero, List.getElem?_cons_succ] at s40 s41
           clear b4
           clear k4 o4))
      have HSM := hid (fun (W : World) (k : Kp No w4 W) => same_yes (O34.out.kp k fun _ _ h => h) (O4.out.kp k fun _ _ h => h))
      refine region_class (fun w' => Kp No w4 w') 37 rfl (by kernel_rfl) (by kernel_rfl) (by kernel_rfl) ((Kp.refl No w4).drew) ?_
      simp only [List.take_succ_cons, List.take_zero]
      repeat ((first | ((with_reducible refine cl_val (v := ?_) ?_ ?_ ?_); rotate_left; (focus (go_simp; done)); (focus (intro w' hw; obtain ⟨z0, z1⟩ := RDX.out w' (K4.out.trans hw); go_simp; (try with_reducible rfl); done))) | ((with_reducible refine cl_skip ?_ ?_); (focus (first | (go_simp; done) | exact unwanted rfl rfl)))); simp only [Act.put, List.setIfInBounds_toArray, List.set_cons_zero, List.set_cons_succ])
      refine cl_call (v := (.bool true)) rfl (fun w' hw => by go_simp) (fun w' hw => (HSM.out w' hw).mono fun e w'' h => ⟨h.1, hw.trans h.2⟩) ?_
      simp only [Act.put, List.setIfInBounds_toArray, List.set_cons_zero, List.set_cons_succ]
      repeat ((first | ((with_reducible refine cl_val (v := ?_) ?_ ?_ ?_); rotate_left; (focus (go_simp; done)); (focus (intro w' hw; obtain ⟨z0, z1⟩ := RDX.out w' (K4.out.trans hw); go_simp; (try with_reducible rfl); done))) | ((with_reducible refine cl_skip ?_ ?_); (focus (first | (go_simp; done) | exact unwanted rfl rfl)))); simp only [Act.put, List.setIfInBounds_toArray, List.set_cons_zero, List.set_cons_succ])
      refine cl_call (v := (.int .i64 (41 + 21 * (n : Int) + 35 * (m : Int)))) rfl (fun w' hw => by go_simp) (fun w' hw => (HZ.out w' (K4.out.trans hw)).mono fun e w'' h => ⟨h.1, hw.trans h.2⟩) ?_
      simp only [Act.put, List.setIfInBounds_toArray, List.set_cons_zero, List.set_cons_succ]
      repeat ((first | ((with_reducible refine cl_val (v := ?_) ?_ ?_ ?_); rotate_left; (focus (go_simp; done)); (focus (intro w' hw; obtain ⟨z0, z1⟩ := RDX.out w' (K4.out.trans hw); go_simp; (try with_reducible rfl); done))) | ((with_reducible refine cl_skip ?_ ?_); (focus (first | (go_simp; done) | exact unwanted rfl rfl)))); simp only [Act.put, List.setIfInBounds_toArray, List.set_cons_zero, List.set_cons_succ])
      refine cl_call (v := (.int .i64 (41 + 21 * (n : Int) + 35 * (m : Int)))) rfl (fun w' hw => by go_simp) (fun w' hw => (HZ.out w' (K4.out.trans hw)).mono fun e w'' h => ⟨h.1, hw.trans h.2⟩) ?_
      simp only [Act.put, List.setIfInBounds_toArray, List.set_cons_zero, List.set_cons_succ]
      repeat ((first | ((with_reducible refine cl_val (v := ?_) ?_ ?_ ?_); rotate_left; (focus (go_simp; done)); (focus (intro w' hw; obtain ⟨z0, z1⟩ := RDX.out w' (K4.out.trans hw); go_simp; (try with_reducible rfl); done))) | ((with_reducible refine cl_skip ?_ ?_); (focus (first | (go_simp; done) | exact unwanted rfl rfl)))); simp only [Act.put, List.setIfInBounds_toArray, List.set_cons_zero, List.set_cons_succ])
      refine cl_nil fun w' hw => ?_
      have K5 := hid hw
      clear hw
      go_wp2_with fail
      go_ret
      exact ⟨rfl, K0.out.trans (K4.out.trans K5.out)⟩
    · have hne : (x != 0) = true := by rw [bne_iff_ne]; exact hx0
      have hxx : (x == x) = true := by simp
      have HE := hid (HEB.out hx0)
      have HR := hid (HRB.out hx0 (by omega) (by omega))
      have hw1 := wrapI (x := 21 * (n : Int)) (by unfold I64; omega)
      have hw2 := wrapI (x := 41 + 21 * (n : Int)) (by unfold I64; omega)
      have hw3 := wrapI (x := 35 * (m : Int)) (by unfold I64; omega)
      have hw4 := wrapI (x := 41 + 21 * (n : Int) + 35 * (m : Int)) (by unfold I64; omega)
      have RDX := hid (fun (W : World) (k : Kp No w0 W) => show W.cell? ⟨w.heap.size, 0, none⟩ = some (.slice A n c) ∧ W.cell? ⟨w.heap.size, 1, none⟩ = some (.slice A2 m c2) from ⟨(B0.out.kp0 k).cell 0, (B0.out.kp0 k).cell 1⟩)
      clear hx0
      go_enter Tryz.func3, Tryz.ntmps3
      go_upto_region 1 with fail
      clear hw0
      go_upto_region 7 with (first
        | (go_at_call 5
           with_reducible refine (iawake_any HTB.out).mono ?_
           rintro e w1 ⟨rfl, k1⟩
           have K1 := hid k1
           have b1 := B0.out.kp0 K1.out
           have s10 := b1.cell 0
           have s11 := b1.cell 1
           simp only [List.getElem?_toArray, List.getElem?_cons_zero, List.getElem?_cons_succ] at s10 s11
           clear b1
           clear k1)
        | (go_at_call 6
           with_reducible refine (HF.out _ K1.out).mono ?_
           rintro e w2 ⟨rfl, k2⟩
           have K2 := hid (K1.out.trans k2)
           have b2 := B0.out.kp0 K2.out
           have s20 := b2.cell 0
           have s21 := b2.cell 1
           simp only [List.getElem?_toArray, List.getElem?_cons_zero, List.getElem?_cons_succ] at s20 s21
           clear b2
           clear k2)
        | (go_at_call 7
           with_reducible refine (HE.out _ K2.out).mono ?_
           rintro e w3 ⟨rfl, k3⟩
           have K3 := hid (K2.out.trans k3)
           have b3 := B0.out.kp0 K3.out
           have s30 := b3.cell 0
           have s31 := b3.cell 1
           simp only [List.getElem?_toArray, List.getElem?_cons_zero, List.getElem?_cons_succ] at s30 s31
           clear b3
           clear k3)
        | (go_at_call 8
           with_reducible refine (HR.out _ K3.out).mono ?_
           rintro e w4 ⟨rfl, k4⟩
           have K4 := hid (K3.out.trans k4)
           have b4 := B0.out.kp0 K4.out
           have s40 := b4.cell 0
           have s41 := b4.cell 1
           simp only [List.getElem?_toArray, List.getElem?_cons_zero, List.getElem?_cons_succ] at s40 s41
           clear b4
           clear k4))
      have HSM := hid (fun (W : World) (k : Kp No w4 W) => same_yes (Byt.nil W Anyb) (Byt.nil W Anyb))
      refine region_class (fun w' => Kp No w4 w') 37 rfl (by kernel_rfl) (by kernel_rfl) (by kernel_rfl) ((Kp.refl No w4).drew) ?_
      simp only [List.take_succ_cons, List.take_zero]
      repeat ((first | ((with_reducible refine cl_val (v := ?_) ?_ ?_ ?_); rotate_left; (focus (go_simp; done)); (focus (intro w' hw; obtain ⟨z0, z1⟩ := RDX.out w' (K4.out.trans hw); go_simp; (try with_reducible rfl); done))) | ((with_reducible refine cl_skip ?_ ?_); (focus (first | (go_simp; done) | exact unwanted rfl rfl)))); simp only [Act.put, List.setIfInBounds_toArray, List.set_cons_zero, List.set_cons_succ])
      refine cl_call (v := (.bool true)) rfl (fun w' hw => by go_simp) (fun w' hw => (HSM.out w' hw).mono fun e w'' h => ⟨h.1, hw.trans h.2⟩) ?_
      simp only [Act.put, List.setIfInBounds_toArray, List.set_cons_zero, List.set_cons_succ]
      repeat ((first | ((with_reducible refine cl_val (v := ?_) ?_ ?_ ?_); rotate_left; (focus (go_simp; done)); (focus (intro w' hw; obtain ⟨z0, z1⟩ := RDX.out w' (K4.out.trans hw); go_simp; (try with_reducible rfl); done))) | ((with_reducible refine cl_skip ?_ ?_); (focus (first | (go_simp; done) | exact unwanted rfl rfl)))); simp only [Act.put, List.setIfInBounds_toArray, List.set_cons_zero, List.set_cons_succ])
      refine cl_call (v := (.int .i64 (41 + 21 * (n : Int) + 35 * (m : Int)))) rfl (fun w' hw => by go_simp) (fun w' hw => (HZ.out w' (K4.out.trans hw)).mono fun e w'' h => ⟨h.1, hw.trans h.2⟩) ?_
      simp only [Act.put, List.setIfInBounds_toArray, List.set_cons_zero, List.set_cons_succ]
      repeat ((first | ((with_reducible refine cl_val (v := ?_) ?_ ?_ ?_); rotate_left; (focus (go_simp; done)); (focus (intro w' hw; obtain ⟨z0, z1⟩ := RDX.out w' (K4.out.trans hw); go_simp; (try with_reducible rfl); done))) | ((with_reducible refine cl_skip ?_ ?_); (focus (first | (go_simp; done) | exact unwanted rfl rfl)))); simp only [Act.put, List.setIfInBounds_toArray, List.set_cons_zero, List.set_cons_succ])
      refine cl_nil fun w' hw => ?_
      have K5 := hid hw
      clear hw
      go_wp2_with fail
      go_ret
      exact ⟨rfl, K0.out.trans (K4.out.trans K5.out)⟩
end Go.Proofs.YtggmdgdgljlddaaGreatDoor

namespace Go.Proofs.YtggmdgdgljlddaaGreatDoor.imageTells
open Go.ChangeShapes Go.WideShapes Go.ChangeAt Go.RowKit
open Go.ChangeMaps (open_string shut_string)
set_option linter.unusedVariables false

theorem own : ownKnob Tryz.prog.godebug = none := by kernel_rfl
theorem laidOut : laidOutB Tryz.prog = true := by kernel_rfl

set_option maxRecDepth 100000 in
theorem lifted (os : Os) (started : os.Started) (H : Type) (enc : TypeId × Value → H) :
    ReturnsInHanded {} Tryz.checked os 3 .any (fun w args => (Rows.imageTellsSpec.pre enc Tryz.prog Tryz.f3 Rows.imageTellsRow.domain false w args ∧ laidMetH Tryz.prog laidL w) ∧ sizedMet enc Tryz.prog Tryz.f3 (OpenSpec.ofChange Rows.imageTellsSpec) false w args)
      (Rows.imageTellsSpec.post enc Tryz.prog Tryz.f3 false true false false) := by
  refine returnsInHanded_of_change_and (C := Tryz.checked) (X := fun w _ => laidMetH Tryz.prog laidL w) (fun _ _ _ hh h => h.of_heap hh) own started (by kernel_rfl) Tryz.func3
    (ChangeSpec.witness_shaped (enc := enc) (C := Tryz.checked) (os := os) (X := fun w _ => laidMetH Tryz.prog laidL w) false (World.laidAll Tryz.prog os laidL) #[.agg #[.slice none 0 0, .slice none 0 0]] 8 (World.laidAll_os _ _ _)
      (World.shaped_of_ZipB (by kernel_rfl) (by kernel_rfl)) (by kernel_rfl) (by kernel_rfl) (by kernel_rfl) (met os _)) ?_
  intro W base args ds gs before hval0 hW hcnd _ hL _
  have hval : ∀ (j : Nat) t v, Tryz.f3.params[j]? = some t → args[j]? = some v → Value.okWide Tryz.prog W .any base t v := hval0
  have hW' := hW
  obtain ⟨p, q, hA0, hV, rfl, hfz, hnd⟩ := hW
  have hA : DataW.TrodAll enc Tryz.prog W 0 (fun _ => true) true Tryz.f3.params.toList args.toList ds p := hA0
  rw [Tryz.params3] at hA hval
  obtain ⟨v0, vs0, d0, ds0, p0, q0, hargs, rfl, rfl, h0, r0⟩ := trodAll_cons hA
  obtain ⟨rfl, rfl, rfl⟩ := trodAll_nil r0
  obtain rfl : args = #[v0] := by cases args; simp_all
  obtain ⟨rfl, rfl⟩ := trodVars_none hV
  have k0 := h0
  have lt0 : ∀ x ∈ p0, x.block < W.heap.size := by obtain ⟨m, hm⟩ := k0; exact DataW.trod_lt m _ _ _ hm
  obtain ⟨gs0, ts0, w0⟩ := open_scene (hval 0 25 v0 rfl rfl) h0
  clear hA0 hval0
  refine (imageTells_walk W  (tab_of hL) w0).mono fun e W' ⟨he, hk⟩ => ?_
  have bel := hk.below
  subst he
  exact ⟨_, rfl, _, _, _, [], _, [], hW', trodAll_mk1 (shut_bool Tryz.underlying4 _), (trodAll_cons_mk (Below.trod laidOut (by kernel_rfl) (of_decide_eq_true (by kernel_rfl)) k0 bel lt0) trodAll_mk0), rfl, bel.frame _, fun h => by cases h⟩

theorem over : Rows.imageTellsRow.holds Tryz.pinned (OpenSpec.ofChange Rows.imageTellsSpec) :=
  OpenClaim.holds_of_wide 3 Tryz.f3 rfl rfl rfl rfl rfl rfl rfl ⟨rfl, rfl, rfl, rfl, rfl⟩ rfl rfl rfl rfl rfl (by kernel_rfl) Tryz.func3 (by kernel_rfl)
    (of_decide_eq_true (by kernel_rfl)) (by unfold Func.isWrapper; first | (rw [if_pos (by decide +kernel)]; kernel_rfl) | (rw [if_neg (by decide +kernel)]; exact ⟨rfl, rfl⟩))
    (fun os started H enc _ => lifted os started H enc)

theorem proved : Rows.ImageTellsCardSaid :=
  Claim7.holds_tied_plain_at .later [] [.data] true _ false over (fun _ h => by cases h) (by kernel_rfl) (fun _ h => by cases h) imageTells_row_tie rfl ⟨rfl, rfl⟩ (by kernel_rfl) rfl
    (fun f fn hf hfn => by
      obtain rfl : f = 3 := Option.some.inj ((show Tryz.prog.funcNamed "diapause/diapauselaw14.ImageTells" = some 3 by kernel_rfl).symm.trans hf) |>.symm
      obtain rfl : fn = Tryz.f3 := (Option.some.inj (Tryz.func3.symm.trans hfn)).symm
      exact ⟨by kernel_rfl, fun j t ht => by
        rw [Tryz.params3] at ht
        have hm : t ∈ [25] := by
          have := Array.mem_of_getElem? ht
          simp at this ⊢
          first | omega | (rcases this with h | h | h | h <;> subst h <;> simp) | (rcases this with h | h | h | h | h <;> subst h <;> simp)
        have hall : ([25].all fun u => !Tryz.prog.wantsStandIn u) = true := by kernel_rfl
        exact (show Tryz.prog.wantsStandIn t = false by simpa using List.all_eq_true.1 hall t hm)⟩)
    (by kernel_rfl)

end Go.Proofs.YtggmdgdgljlddaaGreatDoor.imageTells

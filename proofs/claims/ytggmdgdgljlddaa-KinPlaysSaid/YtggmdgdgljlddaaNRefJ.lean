/-
  Contract of the document's Add.
-/
import Derived.Test.YtggmdgdgljlddaaNRefI
namespace Go.Proofs.Ytggmdgdgljlddaa
open Go.RowKit

section
variable {T : Tre} {D : Int → Nat} {w w' : World} {S P : Nat → Prop} {base r : Nat} {v : Value} {L : List (Int × Int)} {id p : Int}
theorem Ow.mtP (w : World) : Ow (w.alloc (.cells #[] 48)) w.heap.size 48 2 pc (.slice (some ⟨w.heap.size, 0, none⟩) 0 0) [] := Ow.mt w w.heap.size _ 2 pc (Nat.le_refl _)
set_option maxHeartbeats 2000000 in
set_option maxRecDepth 100000 in
theorem radd_any (h : RS w base r T v L) (W : WT T D) (hll : L.length ≤ 1000) (hb : base ≤ w.heap.size) (hpp : I64 p) : Calls Try.prog 7 #[.pointer (some ⟨r, 0, none⟩), .int .i64 id, .int .i64 p] w (RPost base r w (addE T id p) (if addE T id p = 0 then hangT T id p [] else T)) := by
  have HR := hid h
  have HW := hid W
  obtain ⟨n, hn⟩ : ∃ n, L.length = n := ⟨_, rfl⟩
  obtain ⟨A, c, rfl⟩ := h.ow.formN hn
  have HN := hid hn
  have cL := h.hd.cell 0
  simp only [List.getElem?_toArray, List.getElem?_cons_zero] at cL
  rw [hn] at hll
  have g4 : ¬ (4096 : Int) ≤ (n : Int) := by omega
  by_cases h1 : id < 1
  · have he : addE T id p = 1 := by unfold addE; rw [if_pos (.inl h1)]
    rw [he, if_neg (by decide)]
    clear W h he
    go_enter Try.func7, Try.ntmps7
    go_wp2_with fail
    go_ret
    exact RPost.no HR.out (Kp.refl _ _) 1
  · by_cases h2 : 1048576 < id
    · have he : addE T id p = 1 := by unfold addE; rw [if_pos (.inr h2)]
      rw [he, if_neg (by decide)]
      clear W h he
      go_enter Try.func7, Try.ntmps7
      go_wp2_with fail
      go_ret
      exact RPost.no HR.out (Kp.refl _ _) 1
    · have hr : ¬ (id < 1 ∨ id > 1048576) := by omega
      cases hT : T id with
      | some q =>
        have he : addE T id p = 9 := by unfold addE; rw [if_neg hr, hT]; rfl
        rw [he, if_neg (by decide)]
        clear W h he hr
        go_enter Try.func7, Try.ntmps7
        go_wp2_with (first
          | (go_at_call 14
             with_reducible refine (rhas_any HR.out.rt HR.out.lt HW.out id).mono ?_
             rintro e w2 ⟨rfl, rfl⟩
             rw [hT]
             simp only [Option.isSome_some]))
        go_ret
        exact RPost.no HR.out (Kp.refl _ _) 9
      | none =>
        cases hTp : T p with
        | none =>
          have he : addE T id p = 8 := by unfold addE; rw [if_neg hr, hT, hTp]; rfl
          rw [he, if_neg (by decide)]
          clear W h he hr
          go_enter Try.func7, Try.ntmps7
          go_wp2_with (first
            | (go_at_call 14
               with_reducible refine (rhas_any HR.out.rt HR.out.lt HW.out id).mono ?_
               rintro e w2 ⟨rfl, rfl⟩
               rw [hT]
               simp only [Option.isSome_none])
            | (go_at_call 14
               with_reducible refine (rhas_any HR.out.rt HR.out.lt HW.out p).mono ?_
               rintro e w3 ⟨rfl, rfl⟩
               rw [hTp]
               simp only [Option.isSome_none]))
          go_ret
          exact RPost.no HR.out (Kp.refl _ _) 8
        | some q =>
          have hpl := path_le W p
          obtain ⟨m, hm⟩ : ∃ m, (path T p).length = m := ⟨_, rfl⟩
          have HM := hid hm
          rw [hm] at hpl
          have hw1 := wrapI (x := (m : Int) + 1) (by unfold I64; omega)
          by_cases hd : m + 1 > 16
          · have he : addE T id p = 10 := by unfold addE; rw [if_neg hr, hT, hTp, hm, if_pos hd]; rfl
            rw [he, if_neg (by decide)]
            have g5 : (16 : Int) < (m : Int) + 1 := by omega
            clear W h he hr hm hd
            go_enter Try.func7, Try.ntmps7
            go_wp2_with (first
              | (go_at_call 14
                 with_reducible refine (rhas_any HR.out.rt HR.out.lt HW.out id).mono ?_
                 rintro e w2 ⟨rfl, rfl⟩
                 rw [hT]
                 simp only [Option.isSome_none])
              | (go_at_call 14
                 with_reducible refine (rhas_any HR.out.rt HR.out.lt HW.out p).mono ?_
                 rintro e w3 ⟨rfl, rfl⟩
                 rw [hTp]
                 simp only [Option.isSome_some])
              | (go_at_call 22
                 refine (rpath_any HR.out.rt HR.out.lt HW.out hpp).mono ?_
                 rintro e w4 ⟨v4, rfl, o4, k4⟩
                 obtain ⟨A4, c4, rfl⟩ := o4.formN HM.out
                 have K4 := hid k4
                 have R4 := hid (HR.out.kp0 k4)
                 have cL4 := R4.out.hd.cell 0
                 simp only [List.getElem?_toArray, List.getElem?_cons_zero] at cL4
                 clear o4 k4))
            go_ret
            exact RPost.no HR.out K4.out 10
          · have he : addE T id p = 0 := by unfold addE; rw [if_neg hr, hT, hTp, hm, if_neg hd]; rfl
            rw [he, if_pos rfl]
            have g5 : ¬ (16 : Int) < (m : Int) + 1 := by omega
            clear W h he hm hd
            go_enter Try.func7, Try.ntmps7
            go_wp2_with (first
              | (go_at_call 14
                 with_reducible refine (rhas_any HR.out.rt HR.out.lt HW.out id).mono ?_
                 rintro e w2 ⟨rfl, rfl⟩
                 rw [hT]
                 simp only [Option.isSome_none])
              | (go_at_call 14
                 with_reducible refine (rhas_any HR.out.rt HR.out.lt HW.out p).mono ?_
                 rintro e w3 ⟨rfl, rfl⟩
                 rw [hTp]
                 simp only [Option.isSome_some])
              | (go_at_call 22
                 refine (rpath_any HR.out.rt HR.out.lt HW.out hpp).mono ?_
                 rintro e w4 ⟨v4, rfl, o4, k4⟩
                 obtain ⟨A4, c4, rfl⟩ := o4.formN HM.out
                 have K4 := hid k4
                 have R4 := hid (HR.out.kp0 k4)
                 have cL4 := R4.out.hd.cell 0
                 simp only [List.getElem?_toArray, List.getElem?_cons_zero] at cL4
                 have k5 := (Kp.refl No w4).alloc (.cells #[] 48)
                 have cL5 := (R4.out.kp0 k5).hd.cell 0
                 simp only [List.getElem?_toArray, List.getElem?_cons_zero] at cL5
                 have R5 := hid (R4.out.kp0 k5)
                 have K5 := hid (K4.out.trans k5)
                 have Z5 := hid k5.size
                 clear o4 k4 k5)
              | (at_builtin
                 refine wp_apps usQ pc_one rfl (.tmp 33) (.tmp 37) rfl (d := ((0, 0) : Int × Int)) (base := w4.heap.size) (xs := []) (ys := L) (by exact Ow.mtP w4) (by exact R5.out.rt.rw) (by rw [HN.out]; simp; omega) (by rw [HN.out]; simp [maxLen]; omega) (by exact Z5.out) ?_
                 intro v6 w6 o6 k6
                 have kz := (Kp.refl No w6).alloc (.cells #[.int .i64 id, .int .i64 p] 48)
                 have o6' : Ow w6 w4.heap.size 48 2 pc v6 L := by simpa using o6
                 have OZ := hid (o6'.kp0 kz)
                 have hrl := R4.out.hd.lt
                 have RZ := hid ((R5.out.hd.kp k6 (by omega)).kp kz fun e => e)
                 have KZ := hid ((K5.out.step k6 fun i hi e => by have := K4.out.size; omega).trans kz)
                 have ZZ := hid (show w4.heap.size ≤ (w6.alloc (.cells #[.int .i64 id, .int .i64 p] 48)).heap.size from Nat.le_trans Z5.out (Nat.le_trans k6.size kz.size))
                 have B0 := Blk.new w6 48 #[.int .i64 id, .int .i64 p]
                 have HZ := hid (And.intro (B0.cell 0) (B0.cell 1))
                 have HRL := hid hrl
                 clear o6 o6' k6 kz B0 hrl)
              | (at_builtin
                 refine wp_app1 usQ pc_one rfl (.tmp 38) (.tmp 42) rfl (base := w4.heap.size) (xs := L) (y := (id, p)) (by exact OZ.out) rfl (by
                   intro i hi
                   match i, hi with
                   | 0, _ => exact HZ.out.1
                   | 1, _ => exact HZ.out.2) (by rw [HN.out]; omega) (by rw [HN.out]; simp only [maxLen]; omega) (by exact ZZ.out) ?_
                 intro v8 w8 o8 k8 p8
                 have kA := (Kp.refl (fun i => v6.ownBlock = some i) _).grown k8 fun k hk => .inl hk
                 have hrz : ∀ i, v6.ownBlock = some i → i ≠ r := fun i hi e => by
                   have h1 := (OZ.out.blk hi).1
                   have h2 := HRL.out
                   omega
                 have B8 := RZ.out.kp kA fun e => hrz r e rfl
                 have f8 := B8.frozen 0
                 have c8 := B8.cell 0
                 simp only [List.getElem?_toArray, List.getElem?_cons_zero] at c8
                 obtain ⟨A8, q8, hv8⟩ := o8.formN (m := n + 1) (by rw [List.length_append, HN.out]; rfl)
                 subst hv8
                 have O8 := hid o8
                 have HB8 := hid B8
                 have K8 := hid (KZ.out.step kA fun i hi e => by
                   have h1 := (OZ.out.blk e).1
                   have h2 := K4.out.size
                   omega)
                 have NE8 := hid (show ∀ i, (Value.slice A8 (n + 1) q8).ownBlock = some i → i ≠ r from fun i hi e => by
                   have h1 := (o8.blk hi).1
                   have h2 := HRL.out
                   omega)
                 clear o8 k8 p8 kA B8 hrz))
            go_ret
            have kS := Kp.set1 r 0 w8 (.slice A8 (n + 1) q8)
            have hz4 := K4.out.size
            exact ⟨rfl, ⟨_, _, (O8.out.lower (by omega)).kpx kS fun i hi e => NE8.out i hi e, HB8.out.put 0 _, HR.out.lt.add hTp hT (by omega), fun e => NE8.out r e rfl⟩, K8.out.all.trans kS⟩
end
end Go.Proofs.Ytggmdgdgljlddaa

/-
  Contract of the document's Drop.
-/
import Derived.Test.YtggmdgdgljlddaaNRefG
namespace Go.Proofs.Ytggmdgdgljlddaa
open Go.RowKit

/-- The document's tree at r, its list in a block of its own. -/
structure RS (w : World) (base r : Nat) (T : Tre) (v : Value) (L : List (Int × Int)) : Prop where
  ow : Ow w base 48 2 pc v L
  hd : Blk w r 29 #[v]
  lt : LT L T
  ne : v.ownBlock ≠ some r
section
variable {T : Tre} {D : Int → Nat} {w w' : World} {S P : Nat → Prop} {base r : Nat} {v : Value} {L : List (Int × Int)} {id p : Int}
theorem RS.rt (h : RS w base r T v L) : RT w (fun i => v.ownBlock = some i) r v L := by
  refine ⟨h.hd, ?_, fun i hi e => h.ne (e ▸ hi)⟩
  obtain ⟨A, c, rfl, h1, h2, h3⟩ := Ow.rw (d := ((0, 0) : Int × Int)) h.ow
  refine ⟨A, c, rfl, h1, h2, fun h0 => ?_⟩
  obtain ⟨b, o, rfl, g1, _, g3⟩ := h3 h0
  exact ⟨b, o, rfl, g1, rfl, g3⟩
theorem RS.kp (h : RS w base r T v L) (k : Kp S w w') (hs : ∀ i, v.ownBlock = some i → ¬ S i) (hr : ¬ S r) : RS w' base r T v L := ⟨h.ow.kpx k hs, h.hd.kp k hr, h.lt, h.ne⟩
theorem RS.kp0 (h : RS w base r T v L) (k : Kp No w w') : RS w' base r T v L := h.kp k (fun _ _ h => h) fun h => h
def RPost (base r : Nat) (w : World) (code : Int) (T' : Tre) (e : Ending) (w' : World) : Prop := e = .returned (.int .i64 code) ∧ (∃ v' L', RS w' base r T' v' L') ∧ Kp (Only r) w w'
theorem RPost.no (h : RS w base r T v L) (k : Kp No w w') (code : Int) : RPost base r w code T (.returned (.int .i64 code)) w' := ⟨rfl, ⟨v, L, h.kp0 k⟩, k.all⟩
set_option maxHeartbeats 1000000 in
set_option maxRecDepth 100000 in
theorem rdrop_any (h : RS w base r T v L) (W : WT T D) (hll : L.length ≤ 1000000) (hb : base ≤ w.heap.size) : Calls Try.prog 8 #[.pointer (some ⟨r, 0, none⟩), .int .i64 id] w (RPost base r w (dropE T id) (if dropE T id = 0 then cutT T id else T)) := by
  have HR := hid h
  have HW := hid W
  by_cases h0 : id = 0
  · have he : dropE T id = 8 := by unfold dropE; rw [if_pos ((W.par_iff id).2 (.inr h0))]
    rw [he, if_neg (by decide)]
    have g0 : (id == 0) = true := by simp [h0]
    clear W h he h0
    go_enter Try.func8, Try.ntmps8
    go_wp2_with fail
    go_ret
    exact RPost.no HR.out (Kp.refl _ _) 8
  · have g0 : (id == 0) = false := by simp [h0]
    cases hT : T id with
    | none =>
      have he : dropE T id = 8 := by unfold dropE; rw [if_pos ((W.par_iff id).2 (.inl hT))]
      rw [he, if_neg (by decide)]
      clear W h he h0
      go_enter Try.func8, Try.ntmps8
      go_wp2_with (first
        | (go_at_call 14
           refine (rhas_any HR.out.rt HR.out.lt HW.out id).mono ?_
           rintro e w2 ⟨rfl, rfl⟩
           rw [hT]
           simp only [Option.isSome_none]))
      go_ret
      exact RPost.no HR.out (Kp.refl _ _) 8
    | some q =>
      have hpar : ¬ par T id = -1 := fun e => by
        rcases (W.par_iff id).1 e with e | e
        · rw [hT] at e; cases e
        · exact h0 e
      obtain ⟨nk, hnk⟩ : ∃ nk, (kidsT T id).length = nk := ⟨_, rfl⟩
      have HNK := hid hnk
      have H0 := hid h0
      by_cases hz : 0 < nk
      · have he : dropE T id = 12 := by unfold dropE; rw [if_neg hpar, hnk, if_pos (by omega)]
        rw [he, if_neg (by decide)]
        have g1 : (0 : Int) < (nk : Int) := by omega
        clear W h he h0 hpar hnk
        go_enter Try.func8, Try.ntmps8
        go_wp2_with (first
          | (go_at_call 14
             refine (rhas_any HR.out.rt HR.out.lt HW.out id).mono ?_
             rintro e w2 ⟨rfl, rfl⟩
             rw [hT]
             simp only [Option.isSome_some])
          | (go_at_call 20
             refine (rkids_any HR.out.rt HR.out.lt HW.out id).mono ?_
             rintro e w3 ⟨v3, rfl, o3, k3⟩
             obtain ⟨A3, c3, rfl⟩ := o3.formN HNK.out
             have K3 := hid k3
             clear o3 k3))
        go_ret
        exact RPost.no HR.out K3.out 12
      · have hn0 : nk = 0 := by omega
        have he : dropE T id = 0 := by unfold dropE; rw [if_neg hpar, hnk, if_neg (by omega)]
        rw [he, if_pos rfl]
        subst hn0
        clear W h he h0 hpar hnk hz
        go_enter Try.func8, Try.ntmps8
        go_wp2_with (first
          | (go_at_call 14
             refine (rhas_any HR.out.rt HR.out.lt HW.out id).mono ?_
             rintro e w2 ⟨rfl, rfl⟩
             rw [hT]
             simp only [Option.isSome_some])
          | (go_at_call 20
             refine (rkids_any HR.out.rt HR.out.lt HW.out id).mono ?_
             rintro e w3 ⟨v3, rfl, o3, k3⟩
             obtain ⟨A3, c3, rfl⟩ := o3.formN HNK.out
             have K3 := hid k3
             have R3 := hid (HR.out.kp0 k3)
             clear o3 k3)
          | (go_at_call 26
             refine (rwithout_any R3.out.rt hll id).mono ?_
             rintro e w4 ⟨v4, rfl, o4, k4⟩
             obtain ⟨A4, c4, hv4⟩ := o4.formN rfl
             subst hv4
             have O4 := hid o4
             have K4 := hid (K3.out.trans k4)
             have Z3 := hid K3.out.size
             have R4 := R3.out.kp0 k4
             have f4 := R4.hd.frozen 0
             have c40 := R4.hd.cell 0
             have HR4 := hid R4
             simp only [List.getElem?_toArray, List.getElem?_cons_zero] at c40
             clear o4 k4 R4))
        go_ret
        have kS := Kp.set1 r 0 w4 (.slice A4 (wo L id).length c4)
        have hne : ∀ i, (Value.slice A4 (wo L id).length c4).ownBlock = some i → i ≠ r := fun i hi e => by
          have h1 := (O4.out.blk hi).1
          have h2 := R3.out.hd.lt
          omega
        refine ⟨rfl, ⟨_, wo L id, (O4.out.lower (by have := Z3.out; omega)).kpx kS fun i hi e => hne i hi e, HR4.out.hd.put 0 _, HR.out.lt.drop HW.out hT H0.out, fun e => hne r e rfl⟩, K4.out.all.trans kS⟩
end
end Go.Proofs.Ytggmdgdgljlddaa

/-
  Contracts of Add, Drop, Move, do.
-/
import Derived.Test.YtggmdgdgljlddaaNUnder
import Derived.Test.YtggmdgdgljlddaaNHang
import Derived.Test.YtggmdgdgljlddaaNCut
import Derived.Test.YtggmdgdgljlddaaNMov
namespace Go.Proofs.Ytggmdgdgljlddaa
open Go.RowKit

/-- So many groups there are. -/
def Cn (T : Tre) (cnt : Nat) : Prop := ∃ l : List Int, l.Nodup ∧ (∀ x, x ∈ l ↔ (T x).isSome = true) ∧ l.length = cnt
section
variable {T : Tre} {D : Int → Nat} {id p : Int} {cnt : Nat}
theorem Cn.new : Cn newT 1 := ⟨[0], by simp, fun x => by
  unfold newT
  by_cases h : x = 0 <;> simp [h], rfl⟩
theorem Cn.add (h : Cn T cnt) {q : Int × List Int} (hp : T p = some q) (hn : T id = none) : Cn (hangT T id p []) (cnt + 1) := by
  obtain ⟨l, h1, h2, rfl⟩ := h
  refine ⟨id :: l, List.nodup_cons.2 ⟨fun hm => ?_, h1⟩, fun x => ?_, rfl⟩
  · have := (h2 id).1 hm
    rw [hn] at this
    cases this
  · rw [hang_at hp, List.mem_cons, h2]
    by_cases e : x = p
    · rw [if_pos e, e, hp]
      simp
    · rw [if_neg e]
      by_cases e2 : x = id
      · simp [e2]
      · rw [if_neg e2]
        simp [e2]
theorem Cn.one (h : Cn T cnt) {q : Int × List Int} (hq : T id = some q) : 1 ≤ cnt := by
  obtain ⟨l, h1, h2, rfl⟩ := h
  have : id ∈ l := (h2 id).2 (by rw [hq]; rfl)
  exact List.length_pos_of_mem this
theorem Cn.drop (h : Cn T cnt) (W : WT T D) {q : Int × List Int} (hq : T id = some q) (h0 : id ≠ 0) : Cn (cutT T id) (cnt - 1) := by
  have hone := h.one hq
  obtain ⟨l, h1, h2, rfl⟩ := h
  obtain ⟨r, hr, hmem, hne, hc⟩ := cut_at W hq h0
  have hid : id ∈ l := (h2 id).2 (by rw [hq]; rfl)
  refine ⟨l.erase id, h1.erase id, fun x => ?_, List.length_erase_of_mem hid⟩
  rw [h1.mem_erase_iff, h2, hc]
  by_cases e : x = q.1
  · rw [if_pos e, e, hr]
    exact ⟨fun _ => rfl, fun _ => ⟨hne, rfl⟩⟩
  · rw [if_neg e]
    by_cases e2 : x = id
    · simp [e2]
    · rw [if_neg e2]
      exact ⟨fun h => h.2, fun h => ⟨e2, h⟩⟩
theorem Cn.move (h : Cn T cnt) (W : WT T D) {q q2 : Int × List Int} (hq : T id = some q) (h0 : id ≠ 0) (hp : T p = some q2) (hl : id ∉ path T p) : Cn (movT T id p) cnt := by
  obtain ⟨l, h1, h2, rfl⟩ := h
  refine ⟨l, h1, fun x => ?_, rfl⟩
  rw [mov_at W hq h0 hp hl, h2]
  simp
end

/-- What is left of a tree behind one operation. -/
def DoPost (S : Nat → Prop) (g m : Nat) (w : World) (cn : Nat) (code : Int) (T' : Tre) (e : Ending) (w' : World) : Prop :=
  e = .returned (.int .i64 code) ∧ (∃ cnt', Cn T' cnt' ∧ cnt' ≤ cn + 1 ∧ Kn w' S g m T' cnt') ∧ Kp S w w'
section
variable {T : Tre} {D : Int → Nat} {w w' : World} {S P : Nat → Prop} {g m cnt : Nat} {x id p : Int}
theorem DoPost.no (h : Kn w S g m T cnt) (hc : Cn T cnt) (k : Kp No w w') (code : Int) : DoPost S g m w cnt code T (.returned (.int .i64 code)) w' := ⟨rfl, ⟨cnt, hc, by omega, h.kp0 k⟩, k.all⟩
set_option maxHeartbeats 1000000 in
set_option maxRecDepth 100000 in
theorem add_any (W : WT T D) (h : Kn w S g m T cnt) (hc : Cn T cnt) (hS : ∀ i, w.heap.size ≤ i → S i) (hii : I64 id) (hp : I64 p) (hcl : cnt ≤ 1000) :
    Calls Try.prog 23 #[.pointer (some ⟨g, 0, none⟩), .int .i64 id, .int .i64 p] w (DoPost S g m w cnt (addE T id p) (if addE T id p = 0 then hangT T id p [] else T)) := by
  have HK := hid h
  have HW := hid W
  have HC := hid hc
  have HS := hid hS
  have hpl := path_le W p
  have HL := hid hpl
  clear W h hc hS
  by_cases h1 : id < 1
  · have he : addE T id p = 1 := by unfold addE; rw [if_pos (.inl h1)]
    rw [he, if_neg (by decide)]
    clear he hpl
    go_enter Try.func23, Try.ntmps23
    go_wp2_with fail
    go_ret
    exact DoPost.no HK.out HC.out (Kp.refl No w) 1
  · by_cases h2 : 1048576 < id
    · have he : addE T id p = 1 := by unfold addE; rw [if_pos (.inr h2)]
      rw [he, if_neg (by decide)]
      clear he hpl
      go_enter Try.func23, Try.ntmps23
      go_wp2_with fail
      go_ret
      exact DoPost.no HK.out HC.out (Kp.refl No w) 1
    · have hr : ¬ (id < 1 ∨ id > 1048576) := by omega
      cases hTi : T id with
      | some q =>
        have he : addE T id p = 9 := by unfold addE; rw [if_neg hr, hTi]; rfl
        rw [he, if_neg (by decide)]
        clear he hpl hr
        go_enter Try.func23, Try.ntmps23
        go_wp2_with (first
          | (go_at_call 13
             refine (has_any HK.out hii).mono ?_
             rintro e w1 ⟨rfl, k1⟩
             rw [hTi]
             simp only [Option.isSome_some]
             have K1 := hid k1
             clear k1))
        go_ret
        exact DoPost.no HK.out HC.out K1.out 9
      | none =>
        cases hTp : T p with
        | none =>
          have he : addE T id p = 8 := by unfold addE; rw [if_neg hr, hTi, hTp]; rfl
          rw [he, if_neg (by decide)]
          clear he hpl hr
          go_enter Try.func23, Try.ntmps23
          go_wp2_with (first
            | (go_at_call 13
               with_reducible refine (has_any HK.out hii).mono ?_
               rintro e w1 ⟨rfl, k1⟩
               rw [hTi]
               simp only [Option.isSome_none]
               have K1 := hid k1
               clear k1)
            | (go_at_call 13
               refine (has_any (HK.out.kp0 K1.out) hp).mono ?_
               rintro e w2 ⟨rfl, k2⟩
               rw [hTp]
               simp only [Option.isSome_none]
               have K2 := hid (K1.out.trans k2)
               clear k2))
          go_ret
          exact DoPost.no HK.out HC.out K2.out 8
        | some q =>
          obtain ⟨n, hn⟩ : ∃ n, (path T p).length = n := ⟨_, rfl⟩
          have HN := hid hn
          rw [hn] at hpl
          by_cases hd : n + 1 > 16
          · have he : addE T id p = 10 := by unfold addE; rw [if_neg hr, hTi, hTp, hn, if_pos hd]; rfl
            rw [he, if_neg (by decide)]
            have hw1 := wrapI (x := (n : Int) + 1) (by unfold I64; omega)
            have hw2 := wrapI (x := (cnt : Int) - 1) (by unfold I64; omega)
            have hg1 : (16 : Int) < (n : Int) + 1 := by omega
            have hg2 : ¬ (4096 : Int) ≤ (cnt : Int) - 1 := by omega
            clear he hr hn
            go_enter Try.func23, Try.ntmps23
            go_wp2_with (first
              | (go_at_call 13
                 with_reducible refine (has_any HK.out hii).mono ?_
                 rintro e w1 ⟨rfl, k1⟩
                 rw [hTi]
                 simp only [Option.isSome_none]
                 have K1 := hid k1
                 clear k1)
              | (go_at_call 13
                 refine (has_any (HK.out.kp0 K1.out) hp).mono ?_
                 rintro e w2 ⟨rfl, k2⟩
                 rw [hTp]
                 simp only [Option.isSome_some]
                 have K2 := hid (K1.out.trans k2)
                 obtain ⟨f, hkf⟩ := HK.out.kp0 K2.out
                 have cg := hkf.cell
                 have hlen := fun ty => Mk.len gK hkf.mp ty
                 clear k2 hkf)
              | (go_at_call 29
                 refine (deep_any HW.out (HK.out.kp0 K2.out) hp).mono ?_
                 rintro e w3 ⟨rfl, k3⟩
                 rw [HN.out]
                 have K3 := hid (K2.out.trans k3)
                 clear k3))
            go_ret
            exact DoPost.no HK.out HC.out K3.out 10
          · have he : addE T id p = 0 := by unfold addE; rw [if_neg hr, hTi, hTp, hn, if_neg hd]; rfl
            rw [he, if_pos rfl]
            have hw1 := wrapI (x := (n : Int) + 1) (by unfold I64; omega)
            have hw2 := wrapI (x := (cnt : Int) - 1) (by unfold I64; omega)
            have hg1 : ¬ (16 : Int) < (n : Int) + 1 := by omega
            have hg2 : ¬ (4096 : Int) ≤ (cnt : Int) - 1 := by omega
            clear he hr hn
            go_enter Try.func23, Try.ntmps23
            go_wp2_with (first
              | (go_at_call 13
                 with_reducible refine (has_any HK.out hii).mono ?_
                 rintro e w1 ⟨rfl, k1⟩
                 rw [hTi]
                 simp only [Option.isSome_none]
                 have K1 := hid k1
                 clear k1)
              | (go_at_call 13
                 refine (has_any (HK.out.kp0 K1.out) hp).mono ?_
                 rintro e w2 ⟨rfl, k2⟩
                 rw [hTp]
                 simp only [Option.isSome_some]
                 have K2 := hid (K1.out.trans k2)
                 obtain ⟨f, hkf⟩ := HK.out.kp0 K2.out
                 have cg := hkf.cell
                 have hlen := fun ty => Mk.len gK hkf.mp ty
                 clear k2 hkf)
              | (go_at_call 29
                 refine (deep_any HW.out (HK.out.kp0 K2.out) hp).mono ?_
                 rintro e w3 ⟨rfl, k3⟩
                 rw [HN.out]
                 have K3 := hid (K2.out.trans k3)
                 clear k3)
              | (go_at_call 30
                 obtain ⟨f3, hk3⟩ := (HK.out.kp0 K3.out).narrow
                 refine (hang_any (b := none) (n := 0) (c := 0) (ks := []) hk3 hii hp hTp hTi (HW.out.srt p q hTp) (by have := kids_len HW.out p; rw [kids_some hTp] at this; exact this) (RowI.nil w3) (fun k hk => by cases hk) (fun i hi => hi.2) (by omega)).mono ?_
                 rintro e w4 ⟨⟨v4, rfl⟩, k4, n4⟩
                 have N4 := hid n4
                 have K4 := hid ((K3.out.mono (T := S) fun i _ h => h.elim).trans (k4.mono fun i _ h => h.1))
                 clear hk3 k4 n4))
            go_ret
            refine ⟨rfl, ⟨cnt + 1, HC.out.add hTp hTi, Nat.le_refl _, N4.out.mono fun i hi => ?_⟩, K4.out⟩
            rcases hi with hi | hi
            · exact hi.1
            · exact HS.out i (Nat.le_trans K3.out.size hi)
end
end Go.Proofs.Ytggmdgdgljlddaa

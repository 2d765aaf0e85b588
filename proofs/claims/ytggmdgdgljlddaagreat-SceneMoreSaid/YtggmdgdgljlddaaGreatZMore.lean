/-
  Plain facts for SceneMore: a scene with a task more, whose number is above all others.
-/
import Derived.Test.YtggmdgdgljlddaaGreatZNames
namespace Go.Proofs.YtggmdgdgljlddaaGreat

theorem check_more {gs : List GS} {ts : List TS} {t : TS} {top : Int} (h : checkS gs ts = 0) (hl : ts.length ≤ 30) (hid : t.id = top + 1) (h0 : 0 ≤ top) (hmax : ∀ x ∈ idsOf gs ts, x ≤ top) (hw : 1 ≤ t.wt ∧ t.wt ≤ 65536) (hra : t.ra = 0) (hlv : t.lv = 0) (hlr : t.lr = 0) :
    checkS gs (ts ++ [t]) = if t.co = 0 ∨ 1048576 ≤ top then 1 else if t.gr ∈ gs.map (·.id) then 0 else 8 := by
  cases gs with
  | nil =>
    have h2 : (2 : Int) = 0 := h
    exact absurd h2 (by decide)
  | cons g0 gt =>
    obtain ⟨h1, h2, h3, h4, h5, h6⟩ := check0 h
    have hnd := (List.nodup_append.1 h3).1
    have hndt := (List.nodup_append.1 h3).2.1
    have e1 : idsOf (g0 :: gt) (ts ++ [t]) = idsOf (g0 :: gt) ts ++ [t.id] := by
      unfold idsOf
      rw [List.map_append, List.append_assoc]
      rfl
    have hwt : wrongT t = (t.co == 0 || decide (1048576 ≤ top)) := by
      have hp : pcan 0 0 t.wt = true := pcan_iff.2 ⟨by decide, by decide, by decide, by have := pwt_bd t.wt; omega⟩
      unfold wrongT numB
      rw [hra, hlv, hlr, hp, hid, Bool.eq_iff_iff]
      simp
      omega
    rw [checkS_cons, if_neg (by rw [List.length_append, List.length_singleton]; omega)]
    by_cases hc : t.co = 0 ∨ 1048576 ≤ top
    · rw [if_pos hc, if_pos (.inr (by rw [List.any_append, Bool.or_eq_true]; exact .inr (by simpa [hwt] using hc)))]
    · have hwf : wrongT t = false := by rw [hwt]; simpa using hc
      rw [if_neg hc, if_neg (by
        rintro (e | e)
        · exact h2 (.inl e)
        · rw [List.any_append, Bool.or_eq_true] at e
          rcases e with e | e
          · exact h2 (.inr e)
          · simp [hwf] at e)]
      have hn : (idsOf (g0 :: gt) ts ++ [t.id]).Nodup := by
        rw [List.nodup_append]
        refine ⟨h3, by simp, fun x hx y hy e => ?_⟩
        rw [List.mem_singleton] at hy
        have := hmax x hx
        omega
      rw [if_neg (fun n => n (by rw [e1]; exact hn))]
      have hlost : lostB g0 gt (ts ++ [t]) = !decide (t.gr ∈ (g0 :: gt).map (·.id)) := by
        have h4' : lostB g0 gt ts = false := by simpa using h4
        unfold lostB at h4' ⊢
        rw [List.any_append, ← Bool.or_assoc, h4']
        simp
      by_cases hg : t.gr ∈ (g0 :: gt).map (·.id)
      · have hord : ordB (g0 :: gt) (ts ++ [t]) = true := by
          unfold ordB at h5 ⊢
          rw [Bool.and_eq_true, decide_eq_true_eq, decide_eq_true_eq] at h5 ⊢
          refine ⟨h5.1, ?_⟩
          have hp : (ts ++ [t]).Pairwise (fun a b => a.id ≤ b.id) := by
            rw [List.pairwise_append]
            refine ⟨by rw [h5.2]; exact srtT_pair ts, by simp, fun a ha b hb => ?_⟩
            rw [List.mem_singleton] at hb
            have := hmax a.id (List.mem_append_right _ (List.mem_map.2 ⟨a, ha, rfl⟩))
            rw [hb, hid]
            omega
          have hn2 : ((ts ++ [t]).map (·.id)).Nodup := by
            have := (List.nodup_append.1 (by rw [← e1] at hn; exact hn)).2.1
            exact this
          exact uniq TS.id _ _ (srtT_perm _).symm hp (srtT_pair _) fun _ ha _ hb e => idT_inj hn2 ha hb e
        rw [if_neg (by rw [hlost, decide_eq_true hg]; simp), if_neg (by rw [hord]; simp), if_neg (by omega), if_pos hg]
      · rw [if_pos (by rw [hlost, decide_eq_false hg]; rfl), if_neg hg]
end Go.Proofs.YtggmdgdgljlddaaGreat

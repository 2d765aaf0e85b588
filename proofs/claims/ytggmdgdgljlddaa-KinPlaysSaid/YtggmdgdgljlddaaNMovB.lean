/-
  Plain facts on trees of groups: what is moved takes all below it along; moved back it is as it was. Nothing of Go is named here.
-/
import Derived.Test.YtggmdgdgljlddaaNMov
namespace Go.Proofs.Ytggmdgdgljlddaa

section
variable {T : Tre} {D D' : Int → Nat} {id p : Int} {q q2 : Int × List Int}
theorem mov_sub (W : WT T D) (h : T id = some q) (hx : id ≠ 0) (hp : T p = some q2) (hl : id ∉ path T p) : ∀ n x d, (∃ a, T x = some a) → id ∈ path T x → und (movT T id p) n x d = und T n x d := by
  have hm := mov_at W h hx hp hl
  obtain ⟨r, hr, _, _, _⟩ := cut_at W h hx
  have hpo : id ∉ path T q.1 := fun e => by
    have := (path_mem W hr e).2.2
    have := (W.dp id q h hx).1
    omega
  intro n
  induction n with
  | zero => intro x d _ _; rfl
  | succ n ih =>
    rintro x d ⟨a, ha⟩ hin
    have e1 : x ≠ p := fun e => hl (e ▸ hin)
    have e2 : x ≠ q.1 := fun e => hpo (e ▸ hin)
    have hk : kidsT (movT T id p) x = kidsT T x := by
      have := hm x
      rw [ha] at this
      rw [kids_some this, kids_some ha]
      simp only [movK, e1, e2, if_false]
    unfold und
    rw [hk, kids_some ha]
    refine congrArg (List.cons (x, d)) (fm_congr _ fun y hy => ?_)
    obtain ⟨ks, hk2, y0, _⟩ := W.kid_up ha hy
    refine ih y (d + 1) ⟨_, hk2⟩ ?_
    rw [path_cons W hk2 y0]
    exact List.mem_cons_of_mem _ hin
theorem mov_places (W : WT T D) (h : T id = some q) (hx : id ≠ 0) (hp : T p = some q2) (hl : id ∉ path T p) : places (movT T id p) id = places T id := by
  have hm := mov_at W h hx hp hl id
  rw [h] at hm
  unfold places
  rw [hm, h]
  exact mov_sub W h hx hp hl 17 id 0 ⟨_, h⟩ (path_self W h hx)
theorem mov_some (W : WT T D) (h : T id = some q) (hx : id ≠ 0) (hp : T p = some q2) (hl : id ∉ path T p) (x : Int) : (∃ a, movT T id p x = some a) ↔ ∃ a, T x = some a := by
  have hm := mov_at W h hx hp hl x
  cases e : T x with
  | none =>
    rw [e] at hm
    exact ⟨fun ⟨a, ha⟩ => (by rw [hm] at ha; cases ha), fun ⟨a, ha⟩ => (by cases ha)⟩
  | some b =>
    rw [e] at hm
    exact ⟨fun _ => ⟨b, rfl⟩, fun _ => ⟨_, hm⟩⟩
theorem all_len (W : WT T D) {T' : Tre} (W' : WT T' D') (hs : ∀ x, (∃ a, T' x = some a) ↔ ∃ a, T x = some a) : (under T' 0).length = (under T 0).length := by
  obtain ⟨k, h0⟩ := W.top
  obtain ⟨k', h0'⟩ := W'.top
  refine Nat.le_antisymm (nodup_le _ _ (under_nodup W' 0) fun x hx => ?_) (nodup_le _ _ (under_nodup W 0) fun x hx => ?_)
  · exact (mem_under W h0).2 ⟨(hs x).1 ((mem_under W' h0').1 hx).1, .inl rfl⟩
  · exact (mem_under W' h0').2 ⟨(hs x).2 ((mem_under W h0).1 hx).1, .inl rfl⟩
theorem mov_path (W : WT T D) (W' : WT (movT T id p) D') (h : T id = some q) (hx : id ≠ 0) (hp : T p = some q2) (hl : id ∉ path T p) : ∀ x a, T x = some a → id ∉ path T x → path (movT T id p) x = path T x := by
  have hm := mov_at W h hx hp hl
  refine fun x a hxa => W.ind (C := fun x => id ∉ path T x → path (movT T id p) x = path T x) ?_ ?_ x a hxa
  · intro _
    rw [path_nil W (.inr rfl), path_nil W' (.inr rfl)]
  · intro x a hxa hx0 ih hn
    have hxi : x ≠ id := fun e => hn (e ▸ path_self W hxa hx0)
    have h1 := hm x
    rw [hxa] at h1
    rw [path_cons W hxa hx0] at hn ⊢
    rw [path_cons W' h1 hx0]
    simp only [hxi, if_false]
    rw [ih fun e => hn (List.mem_cons_of_mem _ e)]
theorem mov_back (W : WT T D) (W' : WT (movT T id p) D') (h : T id = some q) (hx : id ≠ 0) (hp : T p = some q2) (hl : id ∉ path T p) : movE (movT T id p) id q.1 = 0 ∧ movT (movT T id p) id q.1 = T := by
  have hm := mov_at W h hx hp hl
  obtain ⟨r, hr, _, hne, _⟩ := cut_at W h hx
  have hpo : id ∉ path T q.1 := fun e => by
    have := (path_mem W hr e).2.2
    have := (W.dp id q h hx).1
    omega
  have h1 := hm id
  rw [h, Option.map_some, if_pos rfl] at h1
  obtain ⟨r', hr'⟩ := (mov_some W h hx hp hl q.1).2 ⟨_, hr⟩
  have hpath := mov_path W W' h hx hp hl q.1 r hr hpo
  have hlow := W.low hp
  constructor
  · unfold movE
    have e1 : ¬ (par (movT T id p) id = -1 ∨ (movT T id p q.1).isSome = false) := by
      rintro (e | e)
      · rw [par_some h1] at e
        simp only at e
        omega
      · rw [hr'] at e
        cases e
    rw [if_neg e1, hpath, if_neg hpo]
    obtain ⟨t0, t1, _, y, hy, ht⟩ := tall_is W h
    have e2 : tall (movT T id p) id = tall T id := by unfold tall; rw [mov_places W h hx hp hl]
    obtain ⟨⟨qy, hqy⟩, _⟩ := (mem_under W h).1 hy
    have := W.d16 hqy
    have hl2 := path_len W hr
    have hd := (W.dp id q h hx).1
    rw [e2, if_neg (by omega)]
  · funext x
    rw [mov_at W' h1 hx hr' (by rw [hpath]; exact hpo) x, hm x]
    cases e : T x with
    | none => rfl
    | some a =>
      have hk := kid_iff W h e
      have hs := W.srt x a e
      simp only [Option.map_some, Option.some.injEq]
      have e1 : (if x = id then q.1 else if x = id then p else a.1) = a.1 := by
        by_cases hxi : x = id
        · rw [if_pos hxi]
          rw [hxi, h] at e
          cases e
          rfl
        · rw [if_neg hxi, if_neg hxi]
      have e2 : movK p q.1 id x (movK q.1 p id x a.2) = a.2 := by
        unfold movK
        by_cases hxp : x = p
        · by_cases hxo : x = q.1
          · have hin : id ∈ a.2 := hk.2 hxo
            simp only [if_pos hxp, if_pos hxo]
            rw [ins_del hs hin, ins_del hs hin]
          · have hni : id ∉ a.2 := fun e => hxo (hk.1 e)
            simp only [if_pos hxp, if_neg hxo]
            rw [del_ins hs hni]
        · by_cases hxo : x = q.1
          · simp only [if_neg hxp, if_pos hxo]
            rw [ins_del hs (hk.2 hxo)]
          · simp only [if_neg hxp, if_neg hxo]
      rw [e2, e1]
end
end Go.Proofs.Ytggmdgdgljlddaa

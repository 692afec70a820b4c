/- A text with other blanks holds the same tokens. -/
import Derived.Test.YtilfjpmeededmaaSpdW
namespace Go.Proofs.Ytilfjpmeededmaa

/-- Spaces ahead of, between and behind: what has been spaced still holds the same tokens. -/
theorem spd_cons {p : Option UInt8} {q : Bool} {c : UInt8} {u o : Bs} (h : Spd p q (c :: u) o) : ∃ sm o', blanksB sm = true ∧ o = piece p (nq c q) c u sm ++ o' ∧ Spd (some c) (nq c q) u o' := by
  cases h with
  | cons h1 h2 => exact ⟨_, _, h1, rfl, h2⟩
theorem spd_plain : ∀ (tx : Bs) {p : Option UInt8} {u o : Bs}, tx.all (fun c => !sepB c && c != 39) = true → Spd p false (tx ++ u) o → ∃ o' p', o = tx ++ o' ∧ Spd p' false u o' ∧ (p' = p ∨ p' ≠ some 41) ∧ (tx ≠ [] → p' ≠ some 41) := by
  intro tx
  induction tx with
  | nil => intro p u o _ h; exact ⟨o, p, rfl, h, .inl rfl, fun h => absurd rfl h⟩
  | cons c t ih =>
    intro p u o ha h
    rw [List.all_cons, Bool.and_eq_true] at ha
    obtain ⟨hc, ht⟩ := ha
    rw [Bool.and_eq_true] at hc
    have hs : sepB c = false := by simpa using hc.1
    have h39 : (c == 39) = false := by simpa using hc.2
    obtain ⟨sm, o', _, he, hr⟩ := spd_cons h
    have hn : nq c false = false := by unfold nq; rw [h39]; rfl
    rw [hn] at he hr
    have k1 : (c == 32) = false := by cases hh : (c == 32) with | false => rfl | true => rw [beq_iff_eq] at hh; subst hh; cases hs
    have k2 : (c == 40) = false := by cases hh : (c == 40) with | false => rfl | true => rw [beq_iff_eq] at hh; subst hh; cases hs
    have k3 : (c == 41) = false := by cases hh : (c == 41) with | false => rfl | true => rw [beq_iff_eq] at hh; subst hh; cases hs
    rw [piece_plain k1 k2 k3] at he
    obtain ⟨o2, p2, h1, h2, h3, h4⟩ := ih ht hr
    have hp2 : p2 ≠ some 41 := by
      rcases h3 with rfl | h3
      · intro e; have e2 := Option.some.inj e; subst e2; cases k3
      · exact h3
    exact ⟨o2, p2, by rw [he, h1]; rfl, h2, .inr hp2, fun _ => hp2⟩
theorem spd_quoted : ∀ (inner : Bs) {p : Option UInt8} {u o : Bs}, inner.all (fun c => c != 39) = true → Spd p true (inner ++ 39 :: u) o → ∃ o', o = inner ++ 39 :: o' ∧ Spd (some 39) false u o' := by
  intro inner
  induction inner with
  | nil =>
    intro p u o _ h
    obtain ⟨sm, o', _, he, hr⟩ := spd_cons h
    exact ⟨o', by rw [he]; rfl, hr⟩
  | cons c t ih =>
    intro p u o ha h
    rw [List.all_cons, Bool.and_eq_true] at ha
    have h39 : (c == 39) = false := by simpa using ha.1
    obtain ⟨sm, o', _, he, hr⟩ := spd_cons h
    have hn : nq c true = true := by unfold nq; rw [h39]; rfl
    rw [hn] at he hr
    obtain ⟨o2, h1, h2⟩ := ih ha.2 hr
    exact ⟨o2, by rw [he, h1]; simp [piece], h2⟩
theorem spd_good {tx : Bs} (hg : Good tx) {p : Option UInt8} {u o : Bs} (h : Spd p false (tx ++ u) o) : ∃ o' p', o = tx ++ o' ∧ Spd p' false u o' ∧ p' ≠ some 41 := by
  rcases hg with ⟨h0, ha⟩ | ⟨i, rfl, ha⟩
  · obtain ⟨o', p', h1, h2, _, h4⟩ := spd_plain tx ha h
    exact ⟨o', p', h1, h2, h4 h0⟩
  · rw [show (39 :: (i ++ [39])) ++ u = 39 :: (i ++ 39 :: u) by simp] at h
    obtain ⟨sm, o', _, he, hr⟩ := spd_cons h
    obtain ⟨o2, h1, h2⟩ := spd_quoted i ha hr
    refine ⟨o2, some 39, ?_, h2, by decide⟩
    rw [he, h1]; simp [piece, nq]
theorem spd_brk {c : UInt8} (hc : c = 40 ∨ c = 41) {p : Option UInt8} {u o : Bs} (h : Spd p false (c :: u) o) : ∃ sm o', blanksB sm = true ∧ o = sm ++ (c :: (sm ++ o')) ∧ Spd (some c) false u o' := by
  obtain ⟨sm, o', hb, he, hr⟩ := spd_cons h
  have hn : nq c false = false := by rcases hc with rfl | rfl <;> rfl
  rw [hn] at he hr
  rw [piece_br (by rcases hc with rfl | rfl <;> rfl) (by rcases hc with rfl | rfl <;> rfl)] at he
  exact ⟨sm, o', hb, by rw [he]; simp, hr⟩
theorem end_blanks {b r : Bs} (hb : blanksB b = true) (h : endOK r) : endOK (b ++ r) := by
  cases b with
  | nil => exact h
  | cons c t => rw [blanksB_cons, Bool.and_eq_true] at hb; exact .inr (by simp [sepB, hb.1])

mutual
theorem spd_tree : ∀ {x : Tr} {p : Option UInt8} {u o : Bs}, Wf x → Spd p false (render x ++ u) o →
    ∃ o' p', Spd p' false u o' ∧ (isLeaf x = true → p' ≠ some 41) ∧ (isLeaf x = false → endOK o) ∧ ∀ ts, Deco ts o' → (isLeaf x = true → endOK o') → Deco (toks x ++ ts) o
  | _, p, u, o, .leaf h1 h2 _ _ h3 _, h => by
    rw [render] at h
    obtain ⟨o', p', he, hr, hp⟩ := spd_good h3 h
    refine ⟨o', p', hr, fun _ => hp, (fun h => by cases h), fun ts hd hE => ?_⟩
    rw [toks, he]
    exact .tok (b := []) rfl h1 h2 h3 hd (hE rfl)
  | _, p, u, o, @Wf.node k tx ops h1 h2 h3 _ h5, h => by
    rw [render, if_pos rfl] at h
    rw [show (40 :: (tx ++ renders ops ++ [41])) ++ u = 40 :: (tx ++ (renders ops ++ 41 :: u)) by simp] at h
    obtain ⟨sm, o1, hb, he, hr⟩ := spd_brk (.inl rfl) h
    obtain ⟨o2, p2, he2, hr2, hp2⟩ := spd_good h3 hr
    obtain ⟨o3, p3, hr3, hE3, hD3⟩ := spd_trees h5 hr2 ⟨u, rfl⟩
    obtain ⟨sm4, o4, hb4, he4, hr4⟩ := spd_brk (.inr rfl) hr3
    refine ⟨o4, some 41, hr4, (fun h => by cases h), fun _ => ?_, fun ts hd _ => ?_⟩
    · rw [he]; exact end_blanks hb (end_br 40 rfl _)
    · have E3 : endOK o3 := by rw [he4]; exact end_blanks hb4 (end_br 41 rfl _)
      have D4 : Deco ((2, [41]) :: ts) o3 := by rw [he4]; exact .br (c := 41) hb4 rfl (deco_blanks hb4 hd)
      have D2 := hD3 _ D4 E3
      have D1 : Deco ((k, tx) :: (toksL ops ++ (2, [41]) :: ts)) o1 := by rw [he2]; exact .tok (b := []) rfl h1 h2 h3 D2 (hE3 hp2)
      have D0 : Deco ((1, [40]) :: (k, tx) :: (toksL ops ++ (2, [41]) :: ts)) o := by rw [he]; exact .br (c := 40) hb rfl (deco_blanks hb D1)
      rw [toks, if_pos rfl]
      simpa using D0
theorem spd_trees : ∀ {xs : List Tr} {p : Option UInt8} {u o : Bs}, WfL xs → Spd p false (renders xs ++ u) o → (∃ u', u = 41 :: u') →
    ∃ o' p', Spd p' false u o' ∧ (p ≠ some 41 → endOK o) ∧ ∀ ts, Deco ts o' → endOK o' → Deco (toksL xs ++ ts) o
  | _, p, u, o, .nil, h, hu => by
    rw [renders, List.nil_append] at h
    refine ⟨o, p, h, fun _ => ?_, fun ts hd _ => by rw [toksL]; exact hd⟩
    obtain ⟨u', rfl⟩ := hu
    obtain ⟨sm, o1, hb, he, _⟩ := spd_brk (.inr rfl) h
    rw [he]; exact end_blanks hb (end_br 41 rfl _)
  | _, p, u, o, @WfL.cons t ts' h1 h2, h, hu => by
    rw [renders, List.cons_append, List.append_assoc] at h
    obtain ⟨sm, o1, hb, he, hr⟩ := spd_cons h
    have hn : nq 32 false = false := rfl
    rw [hn] at he hr
    obtain ⟨o2, p2, hr2, hp2, hE2, hD2⟩ := spd_tree h1 hr
    obtain ⟨o3, p3, hr3, hE3, hD3⟩ := spd_trees h2 hr2 hu
    have hpb : ∃ b : Bs, piece p false 32 (render t ++ (renders ts' ++ u)) sm = b ∧ blanksB b = true ∧ (p ≠ some 41 → endOK (b ++ o1)) := by
      cases hcase : (sm.isEmpty && !(render t ++ (renders ts' ++ u)).isEmpty && ((render t ++ (renders ts' ++ u)).headD 0 == 40 || p == some 41)) with
      | false =>
        rw [piece_sp hcase]
        exact ⟨_, rfl, by rw [blanksB_cons, hb]; rfl, fun _ => end_bl _⟩
      | true =>
        rw [piece_om hcase]
        refine ⟨[], rfl, rfl, fun hp => ?_⟩
        rw [Bool.and_eq_true] at hcase
        have h40 : (render t ++ (renders ts' ++ u)).headD 0 = 40 := by
          have := hcase.2
          rw [Bool.or_eq_true] at this
          rcases this with h | h
          · simpa using h
          · exact absurd (by simpa using h) hp
        rw [List.nil_append]
        cases hl : isLeaf t with
        | false => exact hE2 hl
        | true =>
          exfalso
          cases h1 with
          | leaf a1 a2 a3 a4 a5 a6 =>
            rw [render] at h40
            have hg := good_head a5
            have hl0 := good_pos a5
            rename_i k tx
            cases tx with
            | nil => simp at hl0
            | cons c r => simp at h40 hg; subst h40; cases hg
          | node _ _ _ _ _ => cases hl
    obtain ⟨b, hbe, hbb, hbE⟩ := hpb
    rw [hbe] at he
    refine ⟨o3, p3, hr3, fun hp => by rw [he]; exact hbE hp, fun ts hd hE => ?_⟩
    rw [toksL, List.append_assoc, he]
    exact deco_blanks hbb (hD2 _ (hD3 _ hd hE) (fun hl => hE3 (hp2 hl)))
end
theorem spd_deco {x : Tr} {o : Bs} (hw : Wf x) (h : Spd none false (render x) o) : Deco (toks x) o := by
  have h' : Spd none false (render x ++ []) o := by rw [List.append_nil]; exact h
  obtain ⟨o', p', hr, _, _, hD⟩ := spd_tree hw h'
  cases hr
  have := hD [] (.nil rfl) (fun _ => .inl rfl)
  rwa [List.append_nil] at this
end Go.Proofs.Ytilfjpmeededmaa

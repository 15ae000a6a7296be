/- What is loaded, by whom: plain mathematics of states, of what opens and closes. -/
import Derived.Test.YtfneikphgmjfbaaGrX
namespace Go.Proofs.Ytfneikphgmjfbaa
set_option linter.unusedVariables false
set_option linter.unusedSimpArgs false
open Go.Joins Go.ChangeShapes Go.WideShapes Go.ChangeAt Go.RowKit

/-- what is loaded, and open -/
structure St where
  ld : List Nat
  op : List Nat
theorem RE.trans {l : List Obj} {a b c : Nat} (h : RE l a b) (k : RE l b c) : RE l a c := by
  induction k with
  | refl => exact h
  | step _ hj ih => exact .step ih hj
theorem closR_fst {l : List Obj} {name : List UInt8} {o : List Nat} (h : closR l name = .inl o) : ∃ s r, o = s :: r ∧ fidx l name = some s ∧ s < l.length ∧ Ord l o ∧ ∀ k, k ∈ o ↔ RE l s k := by
  unfold closR at h
  cases hf : fidx l name with
  | none => rw [hf] at h; cases h
  | some s =>
    rw [hf] at h
    have hs := fidx_lt hf
    obtain ⟨⟨z, hz⟩, h1, h2⟩ := closF_RS (l.length + 1) [s] o 0 (RS.start hs) (by omega) h
    exact ⟨s, z, hz, rfl, hs, h1, h2⟩
/-- an opening: order and what Begin gives -/
def Beg (l : List Obj) (name : List UInt8) (s : Nat) (b0 : List Nat) : Prop := ∃ o m1, closR l name = .inl o ∧ o.head? = some s ∧ Vis l o [] [] (o.map some) m1 b0
theorem Beg.det {l : List Obj} {name : List UInt8} {s t : Nat} {b c : List Nat} (h : Beg l name s b) (k : Beg l name t c) : s = t ∧ b = c := by
  obtain ⟨o, m, h1, h2, h3⟩ := h
  obtain ⟨o', m', k1, k2, k3⟩ := k
  rw [h1] at k1
  cases k1
  rw [h2] at k2
  cases k2
  exact ⟨rfl, (Vis.det h3 k3).2⟩
theorem Beg.facts {l : List Obj} {name : List UInt8} {s : Nat} {b : List Nat} (h : Beg l name s b) : fidx l name = some s ∧ s < l.length ∧ b.Nodup ∧ (∀ k, k ∈ b ↔ RE l s k) ∧ (∀ k ∈ b, k < l.length) ∧
    ∀ i k (hik : i < k) (hk : k < b.length), some b[k] ∈ needsI l b[i] → RE l b[k] b[i] := by
  obtain ⟨o, m, h1, h2, h3⟩ := h
  obtain ⟨s', r, rfl, hf, hs, hO, hm⟩ := closR_fst h1
  cases h2
  have hb := (h3.fresh (by simp) ⟨by simp, by simp, by simp⟩)
  have hmem := vis_mem h3 hO.2
  exact ⟨hf, hs, hb.2.2.1, fun k => (hmem k).trans (hm k), hb.2.2.2, fun i k hik hk hn => behind h3 hO hb.2.2.1 i k hik hk hn⟩
/-- what opening a name does -/
def Ope (l : List Obj) (s : St) (name : List UInt8) (s' : St) (b : List Nat) (e : Int) : Prop :=
  ((∃ n, closR l name = .inr n) ∧ s' = s ∧ b = [] ∧ e = 130) ∨ ∃ p b0, Beg l name p b0 ∧ b = b0.filter (fun k => !s.ld.contains k) ∧ s' = ⟨s.ld ++ b, s.op ++ [p]⟩ ∧ e = 0
theorem Ope.det {l : List Obj} {s s1 s2 : St} {name : List UInt8} {b1 b2 : List Nat} {e1 e2 : Int} (h : Ope l s name s1 b1 e1) (k : Ope l s name s2 b2 e2) : s1 = s2 ∧ b1 = b2 ∧ e1 = e2 := by
  rcases h with ⟨⟨n, hn⟩, rfl, rfl, rfl⟩ | ⟨p, b0, hB, rfl, rfl, rfl⟩
  · rcases k with ⟨-, rfl, rfl, rfl⟩ | ⟨p, b0, ⟨o, m, k1, -⟩, -⟩
    · exact ⟨rfl, rfl, rfl⟩
    · rw [hn] at k1; cases k1
  · rcases k with ⟨⟨n, hn⟩, -⟩ | ⟨p', b0', kB, rfl, rfl, rfl⟩
    · obtain ⟨o, m, k1, -⟩ := hB
      rw [hn] at k1; cases k1
    · obtain ⟨rfl, rfl⟩ := hB.det kB
      exact ⟨rfl, rfl, rfl⟩
/-- the last place of a number among the first i; 0: there is none -/
def lastN (z : List Int) (x : Int) : Nat → Nat
  | 0 => 0
  | i + 1 => if z[i]? = some x then i else lastN z x i
def lastP (op : List Nat) (x : Int) : Nat := lastN (ordZ op) x op.length
/-- is a place needed by those that are open -/
noncomputable def needP (l : List Obj) (op : List Nat) (k : Nat) : Bool := @decide (∃ p ∈ op, RE l p k) (Classical.propDecidable _)
theorem needP_iff (l : List Obj) (op : List Nat) (k : Nat) : needP l op k = true ↔ ∃ p ∈ op, RE l p k := by unfold needP; exact @decide_eq_true_iff _ (Classical.propDecidable _)
/-- what closing a name does -/
def Clo (l : List Obj) (s : St) (name : List UInt8) (s' : St) (b : List Nat) (e : Int) : Prop :=
  (lastP s.op (findO l name) = 0 ∧ s' = s ∧ b = [] ∧ e = 210) ∨ (0 < lastP s.op (findO l name) ∧ s' = ⟨s.ld.filter (needP l (s.op.eraseIdx (lastP s.op (findO l name)))), s.op.eraseIdx (lastP s.op (findO l name))⟩ ∧
    b = (s.ld.filter fun k => !needP l (s.op.eraseIdx (lastP s.op (findO l name))) k).reverse ∧ e = 0)
theorem Clo.det {l : List Obj} {s s1 s2 : St} {name : List UInt8} {b1 b2 : List Nat} {e1 e2 : Int} (h : Clo l s name s1 b1 e1) (k : Clo l s name s2 b2 e2) : s1 = s2 ∧ b1 = b2 ∧ e1 = e2 := by
  rcases h with ⟨h0, rfl, rfl, rfl⟩ | ⟨h0, rfl, rfl, rfl⟩
  · rcases k with ⟨k0, rfl, rfl, rfl⟩ | ⟨k0, -⟩
    · exact ⟨rfl, rfl, rfl⟩
    · omega
  · rcases k with ⟨k0, -⟩ | ⟨k0, rfl, rfl, rfl⟩
    · omega
    · exact ⟨rfl, rfl, rfl⟩
/-- what is loaded is what is needed, each once, each behind what it needs -/
structure Good (l : List Obj) (root : List UInt8) (s : St) : Prop where
  nd : s.ld.Nodup
  ldl : ∀ k ∈ s.ld, k < l.length
  opl : ∀ k ∈ s.op, k < l.length
  head : ∃ r t, s.op = r :: t ∧ fidx l root = some r
  mem : ∀ k, k ∈ s.ld ↔ ∃ p ∈ s.op, RE l p k
  ord : s.ld.Pairwise fun a b => some b ∈ needsI l a → RE l b a
theorem pairwise_of_idx {α : Type} {R : α → α → Prop} {l : List α} (h : ∀ i k (hik : i < k) (hk : k < l.length), R (l[i]'(by omega)) l[k]) : l.Pairwise R := by
  rw [List.pairwise_iff_getElem]
  exact fun i j hi hj hij => h i j hij hj
theorem Good.begun {l : List Obj} {root : List UInt8} {p : Nat} {b : List Nat} (h : Beg l root p b) : Good l root ⟨b, [p]⟩ := by
  obtain ⟨hf, hs, hnd, hmem, hlt, hbe⟩ := h.facts
  exact ⟨hnd, hlt, fun k hk => by simp at hk; omega, ⟨p, [], rfl, hf⟩, fun k => by rw [hmem]; simp, pairwise_of_idx fun i k hik hk => hbe i k hik hk⟩
theorem Good.opened {l : List Obj} {root name : List UInt8} {s s' : St} {b : List Nat} {e : Int} (h : Good l root s) (ho : Ope l s name s' b e) : Good l root s' := by
  rcases ho with ⟨-, rfl, -, -⟩ | ⟨p, b0, hB, rfl, rfl, -⟩
  · exact h
  · obtain ⟨hf, hs, hnd, hmem, hlt, hbe⟩ := hB.facts
    obtain ⟨r, t, hop, hr⟩ := h.head
    have hbm : ∀ k, k ∈ b0.filter (fun k => !s.ld.contains k) ↔ RE l p k ∧ k ∉ s.ld := fun k => by
      rw [List.mem_filter, hmem]; simp
    refine ⟨?_, fun k hk => ?_, fun k hk => ?_, ⟨r, t ++ [p], by simp [hop], hr⟩, fun k => ?_, ?_⟩
    · rw [List.nodup_append]
      exact ⟨h.nd, hnd.filter _, fun a ha c hc e => ((hbm c).1 hc).2 (e ▸ ha)⟩
    · rcases List.mem_append.1 hk with hk | hk
      · exact h.ldl k hk
      · exact hlt k (List.mem_filter.1 hk).1
    · rcases List.mem_append.1 hk with hk | hk
      · exact h.opl k hk
      · simp at hk; omega
    · simp only [List.mem_append, hbm]
      constructor
      · rintro (hk | ⟨hk, -⟩)
        · obtain ⟨q, hq, hr⟩ := (h.mem k).1 hk
          exact ⟨q, Or.inl hq, hr⟩
        · exact ⟨p, Or.inr (by simp), hk⟩
      · rintro ⟨q, hq | hq, hr⟩
        · exact Or.inl ((h.mem k).2 ⟨q, hq, hr⟩)
        · simp at hq
          subst hq
          by_cases hk : k ∈ s.ld
          · exact Or.inl hk
          · exact Or.inr ⟨hr, hk⟩
    · rw [List.pairwise_append]
      refine ⟨h.ord, (pairwise_of_idx fun i k hik hk => hbe i k hik hk : b0.Pairwise fun a b => some b ∈ needsI l a → RE l b a).filter _, fun a ha c hc hn => ?_⟩
      obtain ⟨q, hq, hr⟩ := (h.mem a).1 ha
      exact absurd ((h.mem c).2 ⟨q, hq, .step hr hn⟩) ((hbm c).1 hc).2
theorem lastN_lt {z : List Int} {x : Int} {i : Nat} (h : 0 < lastN z x i) : lastN z x i < i ∧ z[lastN z x i]? = some x := by
  induction i with
  | zero => simp [lastN] at h
  | succ i ih =>
    unfold lastN at h ⊢
    by_cases hc : z[i]? = some x
    · rw [if_pos hc]; exact ⟨by omega, hc⟩
    · rw [if_neg hc] at h ⊢
      have := ih h
      exact ⟨by omega, this.2⟩
theorem Good.closed {l : List Obj} {root name : List UInt8} {s s' : St} {b : List Nat} {e : Int} (h : Good l root s) (ho : Clo l s name s' b e) : Good l root s' := by
  rcases ho with ⟨-, rfl, -, -⟩ | ⟨h0, rfl, -, -⟩
  · exact h
  · obtain ⟨r, t, hop, hr⟩ := h.head
    have hsub : ∀ k ∈ s.op.eraseIdx (lastP s.op (findO l name)), k ∈ s.op := fun k hk => List.mem_of_mem_eraseIdx hk
    refine ⟨h.nd.filter _, fun k hk => h.ldl k (List.mem_filter.1 hk).1, fun k hk => h.opl k (hsub k hk), ?_, fun k => ?_, h.ord.filter _⟩
    · obtain ⟨n, hn⟩ : ∃ n, lastP s.op (findO l name) = n + 1 := ⟨_, (Nat.succ_pred_eq_of_pos h0).symm⟩
      rw [hn, hop]
      exact ⟨r, t.eraseIdx n, by simp, hr⟩
    · simp only [List.mem_filter, needP_iff, h.mem]
      constructor
      · exact fun q => q.2
      · exact fun ⟨p, hp, hr⟩ => ⟨⟨p, hsub p hp, hr⟩, p, hp, hr⟩
/-- what a call does: opens, or closes -/
def ActS (l : List Obj) (s : St) (opens : Bool) (name : List UInt8) (s' : St) (b : List Nat) (e : Int) : Prop := if opens = true then Ope l s name s' b e else Clo l s name s' b e
theorem Good.acted {l : List Obj} {root name : List UInt8} {s s' : St} {opens : Bool} {b : List Nat} {e : Int} (h : Good l root s) (ho : ActS l s opens name s' b e) : Good l root s' := by
  unfold ActS at ho
  split at ho
  · exact h.opened ho
  · exact h.closed ho
theorem Good.le {l : List Obj} {root : List UInt8} {s : St} (h : Good l root s) : s.ld.length ≤ l.length := nodup_le _ _ h.nd h.ldl
/-- no call makes more than one more be open -/
theorem Ope.len {l : List Obj} {s s' : St} {name : List UInt8} {b : List Nat} {e : Int} (h : Ope l s name s' b e) : s'.op.length ≤ s.op.length + 1 := by
  rcases h with ⟨-, rfl, -, -⟩ | ⟨p, b0, -, -, rfl, -⟩
  · omega
  · simp
theorem Clo.len {l : List Obj} {s s' : St} {name : List UInt8} {b : List Nat} {e : Int} (h : Clo l s name s' b e) : s'.op.length ≤ s.op.length + 1 := by
  rcases h with ⟨-, rfl, -, -⟩ | ⟨-, rfl, -, -⟩
  · omega
  · have := List.length_eraseIdx_le (l := s.op) (i := lastP s.op (findO l name))
    simp only []; omega
theorem ordZ_at (o : List Nat) (i : Nat) (x : Int) : (ordZ o)[i]? = some x ↔ ∃ k, o[i]? = some k ∧ x = (k : Int) := by
  unfold ordZ
  rw [List.getElem?_map]
  cases h : o[i]? with
  | none => simp
  | some k => simp [eq_comm]
theorem lastP_snoc (op : List Nat) (p : Nat) (h : 0 < op.length) : lastP (op ++ [p]) (p : Int) = op.length := by
  unfold lastP
  rw [List.length_append, List.length_singleton]
  unfold lastN
  rw [if_pos ((ordZ_at _ _ _).2 ⟨p, by simp, rfl⟩)]
theorem erase_last (op : List Nat) (p : Nat) : (op ++ [p]).eraseIdx op.length = op := by
  rw [List.eraseIdx_append_of_length_le (Nat.le_refl _)]
  simp
theorem filter_all {l : List Nat} {p : Nat → Bool} (h : ∀ k ∈ l, p k = true) : l.filter p = l := List.filter_eq_self.2 h
theorem filter_none {l : List Nat} {p : Nat → Bool} (h : ∀ k ∈ l, p k = false) : l.filter p = [] := List.filter_eq_nil_iff.2 fun k hk => by rw [h k hk]; simp
/-- what is opened and closed leaves nothing -/
theorem Good.back {l : List Obj} {root name : List UInt8} {s t u : St} {b c : List Nat} {e f : Int} (h : Good l root s) (ho : Ope l s name t b e) (he : e = 0) (hc : Clo l t name u c f) : u = s ∧ c = b.reverse ∧ f = 0 := by
  rcases ho with ⟨-, -, -, rfl⟩ | ⟨p, b0, hB, rfl, rfl, -⟩
  · cases he
  · obtain ⟨hf, hs, hnd, hmem, hlt, hbe⟩ := hB.facts
    obtain ⟨r, q, hop, hr⟩ := h.head
    have hfo := findO_some hf
    have hla : lastP (s.op ++ [p]) (findO l name) = s.op.length := by rw [hfo]; exact lastP_snoc _ _ (by rw [hop]; simp)
    unfold Clo at hc
    simp only [hla, erase_last] at hc
    have hpos : 0 < s.op.length := by rw [hop]; simp
    have hA : s.ld.filter (needP l s.op) = s.ld := filter_all fun k hk => (needP_iff _ _ _).2 ((h.mem k).1 hk)
    have hB2 : ∀ k ∈ b0.filter (fun k => !s.ld.contains k), needP l s.op k = false := fun k hk => by
      rw [List.mem_filter] at hk
      have h2 : k ∉ s.ld := by simpa using hk.2
      cases hn : needP l s.op k with
      | false => rfl
      | true => exact absurd ((h.mem k).2 ((needP_iff _ _ _).1 hn)) h2
    rcases hc with ⟨h0, -⟩ | ⟨-, rfl, rfl, rfl⟩
    · omega
    · refine ⟨?_, ?_, rfl⟩
      · rw [List.filter_append, hA, filter_none hB2, List.append_nil]
      · rw [List.filter_append, filter_none (l := s.ld) (fun k hk => by rw [(needP_iff _ _ _).2 ((h.mem k).1 hk)]; rfl), List.nil_append, filter_all (fun k hk => by rw [hB2 k hk]; rfl)]
/-- each once, where it comes first -/
def add1 (o : List Nat) (k : Nat) : List Nat := if o.contains k then o else o ++ [k]
def onceL (o : List Nat) : List Nat := o.foldl add1 []
theorem onceL_snoc (o : List Nat) (k : Nat) : onceL (o ++ [k]) = add1 (onceL o) k := by unfold onceL; rw [List.foldl_append]; rfl
theorem onceL_nil : onceL [] = [] := rfl
theorem mem_add1 (o : List Nat) (k j : Nat) : j ∈ add1 o k ↔ j ∈ o ∨ j = k := by
  unfold add1
  split
  · rename_i h
    have := List.contains_iff_mem.1 h
    exact ⟨Or.inl, fun q => q.elim id (fun e => e ▸ this)⟩
  · simp
theorem mem_foldl_add1 (o : List Nat) : ∀ (acc : List Nat) (k : Nat), k ∈ o.foldl add1 acc ↔ k ∈ acc ∨ k ∈ o := by
  induction o with
  | nil => intro acc k; simp
  | cons x o ih =>
    intro acc k
    rw [List.foldl_cons, ih, mem_add1, List.mem_cons, or_assoc]
theorem mem_onceL (o : List Nat) (k : Nat) : k ∈ onceL o ↔ k ∈ o := by unfold onceL; rw [mem_foldl_add1]; simp
theorem nodup_add1 {o : List Nat} (h : o.Nodup) (k : Nat) : (add1 o k).Nodup := by
  unfold add1
  split
  · exact h
  · rename_i hc
    rw [List.nodup_append]
    exact ⟨h, by simp, fun a ha b hb => by simp at hb; subst hb; intro e; subst e; exact hc (List.contains_iff_mem.mpr ha)⟩
theorem nodup_foldl_add1 (o : List Nat) : ∀ acc : List Nat, acc.Nodup → (o.foldl add1 acc).Nodup := by
  induction o with
  | nil => exact fun acc h => h
  | cons x o ih => exact fun acc h => ih _ (nodup_add1 h x)
theorem nodup_onceL (o : List Nat) : (onceL o).Nodup := nodup_foldl_add1 o [] List.nodup_nil
theorem foldl_add1_all (o : List Nat) : ∀ acc : List Nat, (∀ k ∈ o, k ∈ acc) → o.foldl add1 acc = acc := by
  induction o with
  | nil => exact fun acc _ => rfl
  | cons x o ih =>
    intro acc h
    have : add1 acc x = acc := by unfold add1; rw [if_pos (List.contains_iff_mem.2 (h x (by simp)))]
    rw [List.foldl_cons, this]
    exact ih acc fun k hk => h k (by simp [hk])
theorem once_flat (f : Nat → List Nat) (o : List Nat) : onceL ((onceL o).flatMap f) = onceL (o.flatMap f) := by
  induction h : o.length generalizing o with
  | zero => rw [List.eq_nil_of_length_eq_zero h]; rfl
  | succ n ih =>
    obtain ⟨o', x, rfl⟩ : ∃ o' x, o = o' ++ [x] := ⟨o.dropLast, o.getLast (by intro e; subst e; cases h), (List.dropLast_concat_getLast _).symm⟩
    have hl : o'.length = n := by simp at h; exact h
    have ih' := ih o' hl
    rw [onceL_snoc]
    simp only [List.flatMap_append, List.flatMap_cons, List.flatMap_nil, List.append_nil]
    have e1 : onceL (o'.flatMap f ++ f x) = (f x).foldl add1 (onceL (o'.flatMap f)) := by unfold onceL; rw [List.foldl_append]
    rw [e1, ← ih']
    by_cases hc : (onceL o').contains x = true
    · have hx := List.contains_iff_mem.1 hc
      rw [show add1 (onceL o') x = onceL o' by unfold add1; rw [if_pos hc], foldl_add1_all]
      intro k hk
      rw [mem_onceL]
      exact List.mem_flatMap.2 ⟨x, hx, hk⟩
    · rw [show add1 (onceL o') x = onceL o' ++ [x] by unfold add1; rw [if_neg hc]]
      simp only [List.flatMap_append, List.flatMap_cons, List.flatMap_nil, List.append_nil]
      unfold onceL
      rw [List.foldl_append]
def nameAt (l : List Obj) (k : Nat) : List UInt8 := match l[k]? with
  | some x => x.name
  | none => []
def scopeL (l : List Obj) (op : List Nat) : List Nat := onceL (op.flatMap fun i => closO l (nameAt l i))
end Go.Proofs.Ytfneikphgmjfbaa

/- GraphMore's mathematics, first part: an object that nobody names, and that is not the root, turns no closure. -/
import Derived.Test.YtcafommklmepgaaGrD
namespace Go.Proofs.Ytcafommklmepgaa
set_option linter.unusedVariables false
set_option linter.unusedSimpArgs false

/-- nobody in l needs m -/
def Unnamed (l : List Obj) (m : Obj) : Prop := ∀ o ∈ l, ∀ n ∈ o.needs, n ≠ m.name
theorem fidx_more {l : List Obj} {m : Obj} {n : List UInt8} (h : n ≠ m.name) : fidx (l ++ [m]) n = fidx l n := by
  have hm : (m.name == n) = false := beq_eq_false_iff_ne.2 (Ne.symm h)
  unfold fidx
  rw [List.findIdx?_append]
  cases List.findIdx? (fun o => o.name == n) l with
  | some k => rfl
  | none => simp [List.findIdx?_cons, hm]
theorem needsAt_more {l : List Obj} {m : Obj} {k : Nat} (h : k < l.length) : needsAt (l ++ [m]) k = needsAt l k := by
  unfold needsAt
  rw [List.getElem?_append_left h]
theorem stepN_more {l : List Obj} {m : Obj} : ∀ (ns : List (List UInt8)) (o : List Nat), (∀ n ∈ ns, n ≠ m.name) → stepN (l ++ [m]) o ns = stepN l o ns
  | [], o, _ => rfl
  | n :: ns, o, h => by
    unfold stepN
    rw [fidx_more (h n (List.mem_cons_self ..))]
    cases fidx l n with
    | none => rfl
    | some k => exact stepN_more ns _ fun x hx => h x (List.mem_cons_of_mem _ hx)
theorem stepN_ord {l : List Obj} : ∀ (ns : List (List UInt8)) (o o' : List Nat), Ord l o → stepN l o ns = .inl o' → Ord l o'
  | [], o, o', h, e => by
    simp only [stepN] at e
    cases e
    exact h
  | n :: ns, o, o', h, e => by
    unfold stepN at e
    cases hf : fidx l n with
    | none => rw [hf] at e; cases e
    | some k => rw [hf] at e; exact stepN_ord ns _ o' (h.add (fidx_lt hf)) e
theorem closF_more {l : List Obj} {m : Obj} (hu : Unnamed l m) : ∀ (f g : Nat) (o : List Nat) (i : Nat), Ord l o → l.length < i + f → l.length < i + g → closF (l ++ [m]) g o i = closF l f o i
  | f, g, o, i, ho, hf, hg => by
    rcases Nat.lt_or_ge i o.length with hi | hi
    · have hle := ho.le
      match f, g, hf, hg with
      | 0, _, hf, _ => omega
      | _ + 1, 0, _, hg => omega
      | f + 1, g + 1, hf, hg =>
        have hk : o[i] < l.length := ho.2 _ (List.getElem_mem hi)
        rw [closF_step _ _ _ _ hi, closF_step _ _ _ _ hi, needsAt_more hk, stepN_more (l := l) (m := m) _ o (by rw [needsAt_eq l _ hk]; exact hu _ (List.getElem_mem hk))]
        cases hs : stepN l o (needsAt l o[i]) with
        | inr n => rfl
        | inl o' => exact closF_more hu f g o' (i + 1) (stepN_ord _ _ _ ho hs) (by omega) (by omega)
    · rw [closF_end _ _ _ _ hi, closF_end _ _ _ _ hi]
theorem closR_more {l : List Obj} {m : Obj} {root : List UInt8} (hu : Unnamed l m) (hr : root ≠ m.name) : closR (l ++ [m]) root = closR l root := by
  unfold closR
  rw [fidx_more hr]
  cases h : fidx l root with
  | none => rfl
  | some k => exact closF_more hu (l.length + 1) ((l ++ [m]).length + 1) [k] 0 (Ord.one (fidx_lt h)) (by omega) (by simp; omega)
end Go.Proofs.Ytcafommklmepgaa

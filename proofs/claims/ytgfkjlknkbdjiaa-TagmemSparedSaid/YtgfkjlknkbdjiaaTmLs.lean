/- With an error nothing is changed: plain mathematics. -/
import Derived.Test.YtgfkjlknkbdjiaaTmO
import Derived.Test.YtgfkjlknkbdjiaaTmP
import Derived.Test.YtgfkjlknkbdjiaaTmG
namespace Go.Proofs.Ytgfkjlknkbdjiaa
set_option linter.unusedVariables false
set_option linter.unusedSimpArgs false

theorem mapF_err (m : Mm) (f n : Int) (h : (mapF m f n).2 ≠ 0) : (mapF m f n).1 = m := by
  unfold mapF at *
  split
  · rfl
  · split
    · rfl
    · split
      · rfl
      · rename_i h1 h2 h3; rw [if_neg h1, if_neg h2, if_neg h3] at h; exact absurd rfl h
theorem unmapF_err (m : Mm) (f n : Int) (h : (unmapF m f n).2 ≠ 0) : (unmapF m f n).1 = m := by
  unfold unmapF at *
  split
  · rfl
  · split
    · rename_i h1 h2; rw [if_neg h1, if_pos h2] at h; exact absurd rfl h
    · rfl
theorem storeF_err (m : Mm) (a n w : Int) (h : (storeF m a n w).2 ≠ 0) : (storeF m a n w).1 = m := by
  unfold storeF at *
  split
  · rename_i h1; rw [if_pos h1] at h; exact absurd rfl h
  · rfl
theorem storeC_err (m : Mm) (a : Int) (c : Cp) (h : (storeC m a c).2 ≠ 0) : (storeC m a c).1 = m := by
  unfold storeC at *
  split
  · rename_i h1; rw [if_pos h1] at h; exact absurd rfl h
  · rfl
theorem putF_err (m : Mm) (a : Int) (l : List Nat) (h : (putF m a l).2 ≠ 0) : (putF m a l).1 = m := by
  unfold putF at *
  split
  · rename_i h1; rw [if_pos h1] at h; exact absurd rfl h
  · rfl
/-- all bytes of these pages -/
def flatB (m : Mm) (l : List Nat) : List Nat := l.flatMap fun p => bytesF m ((p * 256 : Nat) : Int) 256
theorem page_bytes {m : Mm} {p : Nat} (hp : p ∈ m.pgs) : bytesF m ((p * 256 : Nat) : Int) 256 = manyB m (p * 256) 256 := by
  have hall : allB m (p * 256) 256 = true := by
    unfold allB
    rw [List.all_eq_true]
    intro i hi
    have := List.mem_range.1 hi
    refine decide_eq_true ?_
    rwa [show (p * 256 + i) / 256 = p by omega]
  unfold bytesF
  rw [if_neg (by omega), Int.toNat_natCast, show (256 : Int).toNat = 256 from rfl, hall, if_pos rfl]
theorem flatB_len {m : Mm} {l : List Nat} (h : ∀ p ∈ l, p ∈ m.pgs) : (flatB m l).length = 256 * l.length := by
  induction l with
  | nil => rfl
  | cons p r ih =>
    unfold flatB at *
    rw [List.flatMap_cons, List.length_append, ih (fun q hq => h q (List.mem_cons_of_mem _ hq)), page_bytes (h p List.mem_cons_self), manyB_len, List.length_cons]
    omega
theorem flatB_snoc (m : Mm) (l : List Nat) (k : Nat) (h : k < l.length) : flatB m (l.take (k + 1)) = flatB m (l.take k) ++ bytesF m ((l[k] * 256 : Nat) : Int) 256 := by
  unfold flatB
  rw [List.take_succ_eq_append_getElem h, List.flatMap_append, List.flatMap_cons, List.flatMap_nil, List.append_nil]
theorem flatB_get {m : Mm} {l : List Nat} (h : ∀ p ∈ l, p ∈ m.pgs) (i k : Nat) (hi : i < l.length) (hk : k < 256) : (flatB m l)[256 * i + k]? = some (m.by_ (l[i] * 256 + k)) := by
  induction l generalizing i with
  | nil => simp at hi
  | cons p r ih =>
    unfold flatB at *
    rw [List.flatMap_cons, page_bytes (h p List.mem_cons_self)]
    cases i with
    | zero =>
      rw [List.getElem?_append_left (by rw [manyB_len]; omega), List.getElem?_eq_getElem (by rw [manyB_len]; omega), manyB_get]
      simp
    | succ i =>
      rw [List.getElem?_append_right (by rw [manyB_len]; omega), manyB_len, show 256 * (i + 1) + k - 256 = 256 * i + k by omega, ih (fun q hq => h q (List.mem_cons_of_mem _ hq)) i (by simpa using hi)]
      simp
end Go.Proofs.Ytgfkjlknkbdjiaa

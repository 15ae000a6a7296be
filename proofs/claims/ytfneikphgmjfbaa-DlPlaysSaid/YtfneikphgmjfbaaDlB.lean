/- States: calls in a row, two openings in either order, openings counted: plain mathematics. -/
import Derived.Test.YtfneikphgmjfbaaDlA
namespace Go.Proofs.Ytfneikphgmjfbaa
set_option linter.unusedVariables false
set_option linter.unusedSimpArgs false
open Go.Joins Go.ChangeShapes Go.WideShapes Go.ChangeAt Go.RowKit

theorem Ope.err {l : List Obj} {s s' : St} {name : List UInt8} {b : List Nat} {e : Int} (h : Ope l s name s' b e) : e = closE l name := by
  unfold closE
  rcases h with ⟨⟨n, hn⟩, -, -, rfl⟩ | ⟨p, b0, ⟨o, m, ho, -⟩, -, -, rfl⟩
  · rw [hn]
  · rw [ho]
/-- what one opening lays behind those that are open -/
def opL (l : List Obj) (name : List UInt8) : List Nat := match closR l name with
  | .inl o => o.take 1
  | .inr _ => []
theorem Ope.op {l : List Obj} {s s' : St} {name : List UInt8} {b : List Nat} {e : Int} (h : Ope l s name s' b e) : s'.op = s.op ++ opL l name := by
  unfold opL
  rcases h with ⟨⟨n, hn⟩, rfl, -, -⟩ | ⟨p, b0, ⟨o, m, ho, hh, -⟩, -, rfl, -⟩
  · rw [hn]; simp
  · rw [ho]
    cases o with
    | nil => cases hh
    | cons x o => cases hh; rfl
theorem Good.same {l : List Obj} {root : List UInt8} {s t : St} (h : Good l root s) (k : Good l root t) (hop : ∀ p, p ∈ s.op ↔ p ∈ t.op) : (∀ k, k ∈ s.ld ↔ k ∈ t.ld) ∧ s.ld.length = t.ld.length := by
  have hm : ∀ k, k ∈ s.ld ↔ k ∈ t.ld := fun j => by
    rw [h.mem, k.mem]
    exact ⟨fun ⟨p, hp, hr⟩ => ⟨p, (hop p).1 hp, hr⟩, fun ⟨p, hp, hr⟩ => ⟨p, (hop p).2 hp, hr⟩⟩
  exact ⟨hm, nodup_len h.nd k.nd hm⟩
/-- two libraries are opened in either order -/
theorem either {l : List Obj} {root one two : List UInt8} {s a b c d : St} {b1 b2 b3 b4 : List Nat} {e f g i : Int} (h : Good l root s) (h1 : Ope l s one a b1 e) (h2 : Ope l a two b b2 f) (h3 : Ope l s two c b3 g) (h4 : Ope l c one d b4 i) :
    e = i ∧ f = g ∧ b.ld.length = d.ld.length ∧ b.op.length = d.op.length ∧ (∀ k, k ∈ b.ld ↔ k ∈ d.ld) ∧ ∀ k, b.op.count k = d.op.count k := by
  have gb := (h.opened h1).opened h2
  have gd := (h.opened h3).opened h4
  have o1 := h2.op
  rw [h1.op] at o1
  have o2 := h4.op
  rw [h3.op] at o2
  obtain ⟨hm, hl⟩ := gb.same gd fun p => by rw [o1, o2]; simp [or_assoc, or_comm, or_left_comm]
  exact ⟨h1.err.trans h4.err.symm, h2.err.trans h3.err.symm, hl, by rw [o1, o2]; simp; omega, hm, fun k => by rw [o1, o2]; simp only [List.count_append]; omega⟩
/-- one name is opened so many times -/
inductive Chain (l : List Obj) (name : List UInt8) (s : St) : Nat → St → Prop
  | zero : Chain l name s 0 s
  | succ {i : Nat} {t u : St} {b : List Nat} : Chain l name s i t → Ope l t name u b 0 → Chain l name s (i + 1) u
theorem Chain.good {l : List Obj} {root name : List UInt8} {s t : St} {i : Nat} (h : Chain l name s i t) (hg : Good l root s) : Good l root t := by
  induction h with
  | zero => exact hg
  | succ _ ho ih => exact ih.opened ho
theorem Chain.count {l : List Obj} {name : List UInt8} {s t : St} {i p : Nat} (h : Chain l name s i t) (hp : fidx l name = some p) : t.op.count p = s.op.count p + i ∧ t.op.length = s.op.length + i ∧ (0 < i → p ∈ t.op) := by
  induction h with
  | zero => exact ⟨rfl, rfl, fun h => absurd h (by omega)⟩
  | @succ i t u b _ ho ih =>
    rcases ho with ⟨-, -, -, he⟩ | ⟨q, b0, hB, -, rfl, -⟩
    · exact absurd he (by decide)
    · have hq := hB.facts.1
      rw [hp] at hq
      cases hq
      refine ⟨?_, ?_, fun _ => by simp⟩
      · show (t.op ++ [p]).count p = _
        rw [List.count_append, ih.1]; simp; omega
      · show (t.op ++ [p]).length = _
        rw [List.length_append, ih.2.1]; simp; omega
theorem RE.self_mem {l : List Obj} {root : List UInt8} {s : St} (h : Good l root s) {p : Nat} (hp : p ∈ s.op) : p ∈ s.ld := (h.mem p).2 ⟨p, hp, .refl⟩
/-- what was opened is closed -/
theorem Chain.close {l : List Obj} {root name : List UInt8} {s u v : St} {i : Nat} {b : List Nat} {f : Int} (h : Chain l name s (i + 1) u) (hg : Good l root s) (hc : Clo l u name v b f) : Chain l name s i v ∧ f = 0 := by
  cases h with
  | succ h0 ho =>
    obtain ⟨rfl, -, hf⟩ := (h0.good hg).back ho rfl hc
    exact ⟨h0, hf⟩
theorem lastP_one (p : Nat) (x : Int) : lastP [p] x = 0 := by
  unfold lastP
  simp only [List.length_singleton, lastN]
  split <;> rfl
/-- a program that nobody opened is not closed -/
theorem close_one {l : List Obj} {s v : St} {name : List UInt8} {p : Nat} {b : List Nat} {f : Int} (hs : s.op = [p]) (hc : Clo l s name v b f) : v = s ∧ b = [] ∧ f = 210 := by
  unfold Clo at hc
  rw [hs, lastP_one] at hc
  rcases hc with ⟨-, h1, h2, h3⟩ | ⟨h0, -⟩
  · exact ⟨h1, h2, h3⟩
  · omega
/-- calls in a row -/
inductive Runs (l : List Obj) : St → List (Bool × List UInt8) → St → Prop
  | nil (s : St) : Runs l s [] s
  | snoc {s t u : St} {cs : List (Bool × List UInt8)} {o : Bool} {n : List UInt8} {b : List Nat} {e : Int} : Runs l s cs t → ActS l t o n u b e → Runs l s (cs ++ [(o, n)]) u
theorem ActS.len {l : List Obj} {s s' : St} {o : Bool} {name : List UInt8} {b : List Nat} {e : Int} (h : ActS l s o name s' b e) : s'.op.length ≤ s.op.length + 1 := by
  unfold ActS at h
  split at h
  · exact h.len
  · exact h.len
end Go.Proofs.Ytfneikphgmjfbaa

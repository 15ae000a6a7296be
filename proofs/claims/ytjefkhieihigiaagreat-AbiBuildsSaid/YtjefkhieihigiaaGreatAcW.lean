/- What comes in: each text takes at most the platform's room. -/
import Derived.Test.YtjefkhieihigiaaGreatAbV
import Derived.SizedLaws
namespace Go.Proofs.YtjefkhieihigiaaGreat
set_option linter.unusedVariables false
set_option linter.unusedSimpArgs false
open Go.Joins Go.ChangeShapes Go.WideShapes Go.ChangeAt Go.RowKit Go.Deep

section
variable {H : Type} {enc : TypeId × Value → H}
theorem mem_weightsAll {P : Program} {e : TypeId} : ∀ {ds : List (DataW H)} {d : DataW H}, d ∈ ds → ∀ n ∈ d.weights P e, n ∈ DataW.weightsAll P e ds
  | x :: r, d, h, n, hn => by
    rw [DataW.weightsAll]
    rcases List.mem_cons.1 h with rfl | h
    · exact List.mem_append_left _ hn
    · exact List.mem_append_right _ (mem_weightsAll h n hn)
theorem texts_sized {W : World} {d : DataW H} {p : List MemPlace} {a0 : Option Addr} {cap : Nat} {l : List (List UInt8)}
    (h : DataW.Trod enc Tryz.prog W 0 (fun _ => true) true 23 (.slice a0 l.length cap) d p) (hr : Rd W a0 l.length (strs l)) (hw : ∀ n ∈ d.weights Tryz.prog 23, n ≤ reachBytes) : ∀ t ∈ l, t.length ≤ 140737488351232 := by
  obtain ⟨fuel, hf⟩ := h
  have hf' : DataW.trod enc Tryz.prog W 0 (fun _ => true) true fuel 23 [.slice a0 l.length cap] = some (d, p) := hf
  intro t ht
  obtain ⟨i, hi, rfl⟩ := List.getElem_of_mem ht
  rcases open_slice Tryz.underlying23 hf' with ⟨hcs, -⟩ | ⟨a, len', cap', m, n, D, Pl, hcs, -, hl, hm, hmm, hx, hall⟩
  · simp at hcs
    have h0 : l.length = 0 := by rw [hcs.2.1]; rfl
    omega
  · simp at hcs
    obtain ⟨rfl, rfl, rfl⟩ := hcs
    simp only [if_true] at hmm
    subst hmm
    obtain ⟨cs', hc, htr⟩ := hall i (by omega)
    rw [strCells] at hc
    obtain ⟨s, rfl, hs, -⟩ := DataW.trod_string Tryz.underlying9 htr
    obtain ⟨-, -, hat⟩ := World.cells?_some hc
    have h0 := hat 0 (by decide)
    obtain ⟨b, off, he, -, hcl⟩ := hr.2 (by omega)
    cases he
    rw [Nat.mul_one, Go.Deep.add_add, Nat.add_zero, add_plain, hcl i hi, strs_get l i hi] at h0
    simp only [List.getElem?_cons_zero, Option.some.injEq, Value.string.injEq] at h0
    have hD : D i = .lit (.string l[i]) := by
      have h3 : D i = .lit (.string s.data.toList) := congrArg Prod.fst hs
      rw [h3, ← h0]
    have hd : d = _ := congrArg Prod.fst hx
    have hmem : D i ∈ (List.range l.length).map D := List.mem_map.2 ⟨i, List.mem_range.2 hi, rfl⟩
    have hin : l[i].length ∈ d.weights Tryz.prog 23 := by
      rw [hd]
      unfold DataW.weights
      rw [Tryz.underlying23]
      refine List.mem_cons_of_mem _ (List.mem_append_left _ (mem_weightsAll hmem _ ?_))
      rw [hD]
      unfold DataW.weights
      exact List.mem_singleton.2 rfl
    exact hw _ hin
end
end Go.Proofs.YtjefkhieihigiaaGreat

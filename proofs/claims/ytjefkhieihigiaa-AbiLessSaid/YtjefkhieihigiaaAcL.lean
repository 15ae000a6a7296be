/- AbiLess: the walk. -/
import Derived.Test.YtjefkhieihigiaaAca
namespace Go.Proofs.Ytjefkhieihigiaa
set_option linter.unusedVariables false
set_option linter.unusedSimpArgs false
open Go.Joins Go.ChangeShapes Go.WideShapes Go.ChangeAt Go.RowKit Go.Deep

theorem AbiLess_walk (W : World) (b f p : Int) (a1 a2 a3 : Option Addr) (c1 c2 c3 : Nat) (l1 l2 : List (List UInt8)) (k : List Cp) (f0 : 0 ≤ f) (f1 : f < 18446744073709551616) (r1 : Rd W a1 l1.length (strs l1)) (r2 : Rd W a2 l2.length (strs l2)) (r3 : Rd W a3 (k.length * 6) (capsV k)) (hk : k.length ≤ maxLen) (hin : ∀ c ∈ k, InC c) :
    Calls Try.prog 3 #[.int .i64 b, .int .u64 f, .int .i64 p, .slice a1 l1.length c1, .slice a2 l2.length c2, .slice a3 k.length c3] W fun e W' => e = .returned (.bool true) ∧ Below W.heap.size W W' := by
  obtain ⟨n, rfl⟩ : ∃ n : Nat, f = (n : Int) := ⟨f.toNat, by omega⟩
  by_cases hq : (k.all rightB && decide (k.length ≤ 20)) = true
  · by_cases hb : badB b = false
    · by_cases h1 : p < -9
      · exact less_out W b n p a1 a2 a3 c1 c2 c3 _ _ k r3 hk (Or.inr (Or.inr (Or.inl h1)))
      by_cases h2 : 300 < p
      · exact less_out W b n p a1 a2 a3 c1 c2 c3 _ _ k r3 hk (Or.inr (Or.inr (Or.inr (Or.inl h2))))
      by_cases h3 : 20 < l1.length
      · exact less_out W b n p a1 a2 a3 c1 c2 c3 _ _ k r3 hk (Or.inr (Or.inr (Or.inr (Or.inr (Or.inl h3)))))
      by_cases h4 : 20 < l2.length
      · exact less_out W b n p a1 a2 a3 c1 c2 c3 _ _ k r3 hk (Or.inr (Or.inr (Or.inr (Or.inr (Or.inr h4)))))
      by_cases he : (buildF (emptyM b.toNat) n p l1 l2 k).2.2 = 0
      · exact less_yes W b n p a1 a2 a3 c1 c2 c3 l1 l2 k (by omega) r1 r2 r3 hk (fun c hc => (hin c hc).fit) hq hb (by omega) (by omega) (by omega) (by omega) he
      · exact less_err W b n p a1 a2 a3 c1 c2 c3 l1 l2 k (by omega) r1 r2 r3 hk (fun c hc => (hin c hc).fit) hq hb (by omega) (by omega) (by omega) (by omega) he
    · exact less_out W b n p a1 a2 a3 c1 c2 c3 _ _ k r3 hk (Or.inr (Or.inl (by simpa using hb)))
  · exact less_out W b n p a1 a2 a3 c1 c2 c3 _ _ k r3 hk (Or.inl (by simpa using hq))
end Go.Proofs.Ytjefkhieihigiaa

/- AbiLess: the walk, where nothing is built. -/
import Derived.Test.YtjefkhieihigiaaAbX
namespace Go.Proofs.Ytjefkhieihigiaa
set_option linter.unusedVariables false
set_option linter.unusedSimpArgs false
open Go.Joins Go.ChangeShapes Go.WideShapes Go.ChangeAt Go.RowKit Go.Deep

set_option maxRecDepth 100000 in
set_option maxHeartbeats 4000000 in
theorem less_out (W : World) (b f p : Int) (a1 a2 a3 : Option Addr) (c1 c2 c3 : Nat) (n1 n2 : Nat) (k : List Cp) (r3 : Rd W a3 (k.length * 6) (capsV k)) (hk : k.length ≤ maxLen)
    (h : (k.all rightB && decide (k.length ≤ 20)) = false ∨ badB b = true ∨ p < -9 ∨ 300 < p ∨ 20 < n1 ∨ 20 < n2) :
    Calls Try.prog 3 #[.int .i64 b, .int .u64 f, .int .i64 p, .slice a1 n1 c1, .slice a2 n2 c2, .slice a3 k.length c3] W fun e W' => e = .returned (.bool true) ∧ Below W.heap.size W W' := by
  have HA := Lib.hid (awake_any W)
  have HR := Lib.hid (fun w (hb : Below W.heap.size W w) => rights_any a3 c3 k w (r3.below hb) (max_lt3 hk))
  obtain ⟨q, hq⟩ : ∃ q, (k.all rightB && decide (k.length ≤ 20)) = q := ⟨_, rfl⟩
  rw [hq] at HR h
  obtain ⟨n3, hn3⟩ : ∃ n, k.length = n := ⟨_, rfl⟩
  rw [hn3] at HR ⊢
  clear r3 hk hq hn3
  have HH := Lib.hid h
  clear h
  go_enter Try.func3, Try.ntmps3
  go_wp2_with fail
  refine HA.out.mono ?_; rintro e W1 ⟨rfl, hb1⟩
  have B1 := Lib.hid hb1
  clear hb1 HA
  go_wp2_with fail
  refine (HR.out W1 B1.out).mono ?_; rintro e W2 ⟨rfl, hb⟩
  have B2 := Lib.hid (bTrans B1.out hb)
  clear hb HR B1
  rcases hbb : badB b with _ | _
  · have HN := Lib.hid (snew_any b hbb W2)
    rw [hbb] at HH
    clear hbb
    go_wp2_with fail
    refine HN.out.mono ?_; rintro e W3 ⟨M, F, rfl, -, hb⟩
    have B3 := Lib.hid (bTrans B2.out hb)
    clear hb HN B2
    cases q with
    | false =>
      go_wp2_with fail
      go_ret
      exact ⟨rfl, B3.out⟩
    | true =>
      have h2 : p < -9 ∨ 300 < p ∨ 20 < n1 ∨ 20 < n2 := by simpa using HH.out
      clear HH
      by_cases g1 : p < -9
      · have d1 : decide (p < -9) = true := decide_eq_true g1
        clear h2 g1
        go_wp2_with fail
        go_ret
        exact ⟨rfl, B3.out⟩
      have d1 : decide (p < -9) = false := decide_eq_false g1
      by_cases g2 : 300 < p
      · have d2 : decide (300 < p) = true := decide_eq_true g2
        clear h2 g1 g2
        go_wp2_with fail
        go_ret
        exact ⟨rfl, B3.out⟩
      have d2 : decide (300 < p) = false := decide_eq_false g2
      by_cases g3 : 20 < n1
      · have d3 : decide ((20 : Int) < (n1 : Int)) = true := decide_eq_true (by omega)
        clear h2 g1 g2 g3
        go_wp2_with fail
        go_ret
        exact ⟨rfl, B3.out⟩
      have d3 : decide ((20 : Int) < (n1 : Int)) = false := decide_eq_false (by omega)
      have d4 : decide ((20 : Int) < (n2 : Int)) = true := decide_eq_true (by omega)
      clear h2 g1 g2 g3
      go_wp2_with fail
      go_ret
      exact ⟨rfl, B3.out⟩
  · have HN := Lib.hid (sbad_any b hbb W2)
    clear hbb HH
    go_wp2_with fail
    refine HN.out.mono ?_; rintro e W3 ⟨rfl, rfl⟩
    cases q with
    | false =>
      go_wp2_with fail
      go_ret
      exact ⟨rfl, B2.out⟩
    | true =>
      go_wp2_with fail
      go_ret
      exact ⟨rfl, B2.out⟩
end Go.Proofs.Ytjefkhieihigiaa

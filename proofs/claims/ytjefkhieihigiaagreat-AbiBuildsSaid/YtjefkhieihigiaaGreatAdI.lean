/- AbiBuilds: the walk, where nothing is built. -/
import Derived.Test.YtjefkhieihigiaaGreatAdH
namespace Go.Proofs.YtjefkhieihigiaaGreat
set_option linter.unusedVariables false
set_option linter.unusedSimpArgs false
open Go.Joins Go.ChangeShapes Go.WideShapes Go.ChangeAt Go.RowKit Go.Deep

theorem rnew_yes (b : Int) (hb : badB b = false) (W : World) :
    Calls Tryz.prog 7 #[.int .i64 b] W fun e W' => ∃ R G, e = .returned (.tuple #[.pointer (some ⟨R, 0, none⟩), .int .i64 0]) ∧ ROw W' W.heap.size G R (emptyM b.toNat) ∧ Below W.heap.size W W' := by
  refine (rnew_any b W).mono ?_
  rintro e W' (⟨h, -⟩ | ⟨-, R, rfl, h1, h2, h3⟩)
  · rw [hb] at h; cases h
  · exact ⟨R, _, rfl, ⟨h2, fun q hq => hq.1, h3.size⟩, h3⟩
theorem rnew_bad (b : Int) (hb : badB b = true) (W : World) :
    Calls Tryz.prog 7 #[.int .i64 b] W fun e W' => e = .returned (.tuple #[.pointer none, .int .i64 1]) ∧ W = W' := by
  refine (rnew_any b W).mono ?_
  rintro e W' (⟨-, h⟩ | ⟨h, -⟩)
  · exact h
  · rw [hb] at h; cases h
set_option maxRecDepth 100000 in
set_option maxHeartbeats 4000000 in
theorem builds_out (W : World) (b f p : Int) (a1 a2 a3 : Option Addr) (c1 c2 c3 : Nat) (n1 n2 : Nat) (k : List Cp) (r3 : Rd W a3 (k.length * 6) (capsV k)) (hk : k.length ≤ maxLen)
    (h : (k.all rightB && decide (k.length ≤ 20)) = false ∨ badB b = true ∨ p < -9 ∨ 300 < p ∨ 20 < n1 ∨ 20 < n2) :
    Calls Tryz.prog 3 #[.int .i64 b, .int .u64 f, .int .i64 p, .slice a1 n1 c1, .slice a2 n2 c2, .slice a3 k.length c3] W fun e W' => e = .returned (.bool true) ∧ Below W.heap.size W W' := by
  have HA := Lib.hid (awake_any W)
  have HR := Lib.hid (fun w (hb : Below W.heap.size W w) => rights_any a3 c3 k w (r3.below hb) (max_lt3 hk))
  obtain ⟨q, hq⟩ : ∃ q, (k.all rightB && decide (k.length ≤ 20)) = q := ⟨_, rfl⟩
  rw [hq] at HR h
  obtain ⟨n3, hn3⟩ : ∃ n, k.length = n := ⟨_, rfl⟩
  rw [hn3] at HR ⊢
  clear r3 hk hq hn3
  have HH := Lib.hid h
  clear h
  go_enter Tryz.func3, Tryz.ntmps3
  go_wp2_with fail
  refine HA.out.mono ?_; rintro e W1 ⟨rfl, hb1⟩
  have B1 := Lib.hid hb1
  clear hb1 HA
  go_wp2_with fail
  refine (HR.out W1 B1.out).mono ?_; rintro e W2 ⟨rfl, hb⟩
  have B2 := Lib.hid (bTrans B1.out hb)
  clear hb HR B1
  rcases hbb : badB b with _ | _
  · have HN := Lib.hid (snew_any b hbb W2)
    have HN2 := Lib.hid (fun w => rnew_yes b hbb w)
    rw [hbb] at HH
    clear hbb
    go_wp2_with fail
    refine HN.out.mono ?_; rintro e W3 ⟨M, F, rfl, -, hb⟩
    have B3 := Lib.hid (bTrans B2.out hb)
    clear hb HN B2
    go_wp2_with fail
    refine (HN2.out W3).mono ?_; rintro e W4 ⟨R, G, rfl, -, hb⟩
    have B4 := Lib.hid (bTrans B3.out hb)
    clear hb HN2 B3
    cases q with
    | false =>
      go_wp2_with fail
      go_ret
      exact ⟨rfl, B4.out⟩
    | true =>
      have h2 : p < -9 ∨ 300 < p ∨ 20 < n1 ∨ 20 < n2 := by simpa using HH.out
      clear HH
      by_cases g1 : p < -9
      · have d1 : decide (p < -9) = true := decide_eq_true g1
        clear h2 g1
        go_wp2_with fail
        go_ret
        exact ⟨rfl, B4.out⟩
      have d1 : decide (p < -9) = false := decide_eq_false g1
      by_cases g2 : 300 < p
      · have d2 : decide (300 < p) = true := decide_eq_true g2
        clear h2 g1 g2
        go_wp2_with fail
        go_ret
        exact ⟨rfl, B4.out⟩
      have d2 : decide (300 < p) = false := decide_eq_false g2
      by_cases g3 : 20 < n1
      · have d3 : decide ((20 : Int) < (n1 : Int)) = true := decide_eq_true (by omega)
        clear h2 g1 g2 g3
        go_wp2_with fail
        go_ret
        exact ⟨rfl, B4.out⟩
      have d3 : decide ((20 : Int) < (n1 : Int)) = false := decide_eq_false (by omega)
      have d4 : decide ((20 : Int) < (n2 : Int)) = true := decide_eq_true (by omega)
      clear h2 g1 g2 g3
      go_wp2_with fail
      go_ret
      exact ⟨rfl, B4.out⟩
  · have HN := Lib.hid (sbad_any b hbb W2)
    have HN2 := Lib.hid (fun w => rnew_bad b hbb w)
    clear hbb HH
    go_wp2_with fail
    refine HN.out.mono ?_; rintro e W3 ⟨rfl, rfl⟩
    go_wp2_with fail
    refine (HN2.out W2).mono ?_; rintro e W3 ⟨rfl, rfl⟩
    cases q with
    | false =>
      go_wp2_with fail
      go_ret
      exact ⟨rfl, B2.out⟩
    | true =>
      go_wp2_with fail
      go_ret
      exact ⟨rfl, B2.out⟩
end Go.Proofs.YtjefkhieihigiaaGreat

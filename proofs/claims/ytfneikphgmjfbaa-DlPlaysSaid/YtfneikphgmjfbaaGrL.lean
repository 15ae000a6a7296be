/- The document's Right: contract. -/
import Derived.Test.YtfneikphgmjfbaaGrK
namespace Go.Proofs.Ytfneikphgmjfbaa
set_option linter.unusedVariables false
set_option linter.unusedSimpArgs false
open Go.Joins Go.ChangeShapes Go.WideShapes Go.ChangeAt Go.RowKit

def rightB (z : List Int) (n : Nat) : Bool := decide ((∀ x ∈ z, 0 ≤ x ∧ x < (n : Int)) ∧ z.Nodup)
theorem right_nats : ∀ (z : List Int) (n : Nat), (∀ x ∈ z, 0 ≤ x ∧ x < (n : Int)) → ∃ o : List Nat, z = ordZ o ∧ ∀ k ∈ o, k < n
  | [], n, _ => ⟨[], rfl, by simp⟩
  | x :: z, n, h => by
    obtain ⟨o, rfl, ho⟩ := right_nats z n fun y hy => h y (List.mem_cons_of_mem _ hy)
    obtain ⟨h0, h1⟩ := h x (List.mem_cons_self ..)
    refine ⟨x.toNat :: o, ?_, ?_⟩
    · simp only [ordZ, List.map_cons]
      congr 1
      omega
    · intro k hk
      rcases List.mem_cons.1 hk with rfl | hk
      · omega
      · exact ho k hk
theorem nodup_take_snoc (z : List Int) (i : Nat) (hi : i < z.length) (h : (z.take i).Nodup) (hn : ∀ j (hj : j < i), z[j]'(by omega) ≠ z[i]) : (z.take (i + 1)).Nodup := by
  rw [List.take_succ_eq_append_getElem hi, List.nodup_append]
  refine ⟨h, by simp, fun a ha b hb => ?_⟩
  simp at hb
  subst hb
  obtain ⟨j, hj, rfl⟩ := List.getElem_of_mem ha
  rw [List.getElem_take]
  exact hn j (by simp at hj; omega)
theorem not_nodup (z : List Int) (i j : Nat) (hi : i < z.length) (hj : j < i) (h : z[j]'(by omega) = z[i]) : ¬ z.Nodup := fun hn => by
  have := (List.getElem_inj (h₀ := (by omega : j < z.length)) (h₁ := hi) hn).1 h
  omega
set_option maxHeartbeats 2000000 in
theorem right_any (a : Option Addr) (z : List Int) (m c n : Nat) (w : World) (hl : Rd w a m (i64s z)) (hm : m ≤ 9223372036854775807) (hn : n ≤ 9223372036854775807) :
    Calls Try.prog 22 #[.slice a m c, .int .i64 (n : Int)] w fun e w' => e = .returned (.bool (rightB z n)) ∧ Below w.heap.size w w' := by
  have hll : z.length = m := by rw [← i64s_length]; exact hl.1
  have HL := Lib.hid hl
  have HLL := Lib.hid hll
  obtain ⟨r, hr⟩ : ∃ r, rightB z n = r := ⟨_, rfl⟩
  rw [hr]
  have HR := Lib.hid hr
  have HNO := Lib.hid (fun (h : ¬ ((∀ x ∈ z, 0 ≤ x ∧ x < (n : Int)) ∧ z.Nodup)) => show false = r by rw [← hr]; exact (decide_eq_false h).symm)
  clear hl hll hr
  go_enter Try.func22, Try.ntmps22
  go_wp2_with fail
  go_loopw [5] (fun i wr => ∃ k : Nat, k ≤ m ∧ i = .int .i64 k ∧ Hid ((∀ x ∈ z.take k, 0 ≤ x ∧ x < (n : Int)) ∧ (z.take k).Nodup) ∧ Hid (Below w.heap.size w wr)) (fun i _ => m - (intOf i).toNat)
  case atStart => exact ⟨0, by omega, rfl, Lib.hid ⟨by simp, by simp⟩, Lib.hid (Below.refl _ _)⟩
  case round =>
    obtain ⟨k, hk, rfl, HK, HB⟩ := hrel
    by_cases h : k < m
    · have hkl : k < z.length := by rw [HLL.out]; exact h
      obtain ⟨b, o, rfl, -, hc⟩ := (HL.out.below HB.out).at_ h
      rw [i64s_get z k hkl] at hc
      obtain ⟨y, hy⟩ : ∃ y, z[k] = y := ⟨_, rfl⟩
      rw [hy] at hc
      have HY := Lib.hid hy
      have HMEM := Lib.hid (show y ∈ z from hy ▸ List.getElem_mem hkl)
      clear hy
      by_cases hy0 : y < 0
      · go_wp2_with fail
        go_ret
        exact ⟨ret_bool (HNO.out fun q => by have := q.1 y HMEM.out; omega), HB.out⟩
      · by_cases hy1 : (n : Int) ≤ y
        · go_wp2_with fail
          go_ret
          exact ⟨ret_bool (HNO.out fun q => by have := q.1 y HMEM.out; omega), HB.out⟩
        · have HSN := Lib.hid (show (∀ j (hj : j < k), z[j]'(by omega) ≠ y) → (∀ x ∈ z.take (k + 1), 0 ≤ x ∧ x < (n : Int)) ∧ (z.take (k + 1)).Nodup from fun q => ⟨fun x hx => by
            rw [List.take_succ_eq_append_getElem hkl, List.mem_append] at hx
            rcases hx with hx | hx
            · exact HK.out.1 x hx
            · simp at hx; rw [hx, HY.out]; omega, nodup_take_snoc z k hkl HK.out.2 (by rw [HY.out]; exact q)⟩)
          go_wp2_with fail
          clear hc
          go_loopw [6] (fun i wr => ∃ j : Nat, j ≤ k ∧ i = .int .i64 j ∧ Hid (∀ j' (hj : j' < j), j' < k → ∀ (h2 : j' < z.length), z[j'] ≠ y) ∧ Hid (Below w.heap.size w wr)) (fun i _ => k - (intOf i).toNat)
          case atStart => exact ⟨0, by omega, rfl, Lib.hid (fun j' hj => by omega), HB⟩
          case round =>
            obtain ⟨j, hj, rfl, HJ, HB2⟩ := hrel
            by_cases hjk : j < k
            · have hjl : j < z.length := by omega
              have hrd := HL.out.below HB2.out
              obtain ⟨b2, o2, e2, -, hc⟩ := hrd.at_ h
              obtain ⟨b3, o3, e3, -, hc2⟩ := hrd.at_ (k := j) (by omega)
              cases e2
              cases e3
              rw [i64s_get z k hkl, HY.out] at hc
              rw [i64s_get z j hjl] at hc2
              obtain ⟨x, hx⟩ : ∃ x, z[j] = x := ⟨_, rfl⟩
              rw [hx] at hc2
              have HX := Lib.hid hx
              clear hx hrd
              by_cases hxy : (x == y) = true
              · go_wp2_with fail
                go_quiet (fail)
                go_wp2_with fail
                go_ret
                exact ⟨ret_bool (HNO.out fun q => not_nodup z k j hkl hjk (by rw [HX.out, HY.out]; exact beq_iff_eq.1 hxy) q.2), bDrewN HB2.out _⟩
              · rw [Bool.not_eq_true] at hxy
                go_wp2_with fail
                go_quiet (fail)
                go_wp2_with fail
                go_roundw
                case rel => exact ⟨j + 1, by omega, by go_num, Lib.hid (fun j' h1 h2 h3 => by
                  rcases Nat.lt_or_ge j' j with h4 | h4
                  · exact HJ.out j' h4 h2 h3
                  · have : j' = j := by omega
                    subst this
                    rw [HX.out]; exact beq_eq_false_iff_ne.1 hxy), Lib.hid (bDrewN HB2.out _)⟩
                case measure => simp [intOf]; omega
            · go_wp2_with fail
              go_roundw
              case rel => exact ⟨k + 1, by omega, by go_num, Lib.hid (HSN.out fun j' h1 => HJ.out j' (by omega) h1 (by omega)), HB2⟩
              case measure => simp [intOf]; omega
    · go_wp2_with fail
      go_ret
      refine ⟨ret_bool ?_, HB.out⟩
      rw [← HR.out]
      have := HK.out
      rw [List.take_of_length_le (by rw [HLL.out]; omega)] at this
      exact (decide_eq_true this).symm
end Go.Proofs.Ytfneikphgmjfbaa

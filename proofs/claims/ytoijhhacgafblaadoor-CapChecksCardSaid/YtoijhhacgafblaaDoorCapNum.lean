/- The document's own text of a number: it calls itself. -/
import Derived.Test.YtoijhhacgafblaaDoorCapX
namespace Go.Proofs.YtoijhhacgafblaaDoor
set_option linter.unusedVariables false
set_option linter.unusedSimpArgs false
open Go.ChangeShapes Go.WideShapes Go.ChangeAt Go.RowKit

theorem dec_step (u : Nat) (h : ¬ u < 10) : Lib.decDigits (u / 10) ++ Lib.decDigits (u % 10) = Lib.decDigits u := by
  rw [Lib.decDigits_one (show u % 10 < 10 by omega)]
  conv => rhs; rw [Lib.decDigits, dif_neg h]

theorem number_small (u : Nat) (hs : u < 10) (w : World) :
    Calls Tryd.prog 44 #[.int .u64 u] w fun e w' => e = .returned (.string ⟨(Lib.decDigits u).toArray⟩) ∧ Below w.heap.size w w' := by
  have hs' : decide (u < 10) = true := decide_eq_true hs
  have hcv : (convert 46 9 (.slice (some ⟨w.heap.size, 0, none⟩) 1 1)).run Tryd.prog (w.alloc (.cells #[.int .u8 (48 + (u : Int))] 5)) = .ok (.string ⟨(Lib.decDigits u).toArray⟩) (w.alloc (.cells #[.int .u8 (48 + (u : Int))] 5)) := by
    have hd := Lib.decDigits_one hs
    have h := run_convert_bytes_back (P := Tryd.prog) (w.alloc (.cells #[.int .u8 (48 + (u : Int))] 5)) 46 9 5 ⟨w.heap.size, 0, none⟩ 1 (Lib.decDigits u) Tryd.underlying46 Tryd.underlying5 Tryd.underlying9 (fun j hj => by
      rw [hd] at hj
      obtain rfl : j = 0 := by simpa using hj
      simp only [hd, Addr.add, List.getElem_cons_zero, if_true]
      rw [World.cell?_alloc_new]
      have : ((UInt8.ofNat (48 + u)).toNat : Int) = 48 + (u : Int) := by rw [UInt8.toNat_ofNat']; omega
      simp [this]; omega)
    have hl : (Lib.decDigits u).length = 1 := by rw [hd]; rfl
    rw [hl] at h
    exact h
  go_enter Tryd.func44, Tryd.ntmps44
  go_wp2_with fail
  go_ret
  exact ⟨rfl, bAlloc (Below.refl _ _) _⟩

set_option maxRecDepth 8000 in
theorem number_any (k : Nat) : ∀ (u : Nat) (w : World), u ≤ k → u < 18446744073709551616 →
    Calls Tryd.prog 44 #[.int .u64 u] w fun e w' => e = .returned (.string ⟨(Lib.decDigits u).toArray⟩) ∧ Below w.heap.size w w' := by
  induction k with
  | zero => exact fun u w hk hu => number_small u (by omega) w
  | succ k ih =>
    intro u w hk hu
    by_cases hs : u < 10
    · exact number_small u hs w
    · have hs' : decide (u < 10) = false := decide_eq_false hs
      have e1 : ((u : Int) / 10) = ((u / 10 : Nat) : Int) := rfl
      have e2 : ((u : Int) % 10) = ((u % 10 : Nat) : Int) := rfl
      have l1 := dec_len (u / 10) (by omega)
      have l2 := dec_len (u % 10) (by omega)
      have k1 := add_l (Lib.decDigits (u / 10)) (Lib.decDigits (u % 10)) (Lib.decDigits u) (dec_step u hs) (by omega) (by omega)
      have K1 := Lib.hid k1
      have E2 := Lib.hid e2
      have E1 := Lib.hid e1
      have IH := Lib.hid ih
      clear k1 l1 l2 e2 e1 ih
      go_enter Tryd.func44, Tryd.ntmps44
      go_wp2_with fail
      rw [E1.out]
      refine (IH.out (u / 10) _ (by omega) (by omega)).mono ?_; rintro e w1 ⟨rfl, hb⟩
      have HB1 := Lib.hid hb
      clear hb
      go_wp2_with fail
      rw [E2.out]
      refine (number_small (u % 10) (by omega) _).mono ?_; rintro e w2 ⟨rfl, hb⟩
      have HB2 := Lib.hid (bTrans HB1.out hb)
      clear hb
      have k1 := K1.out
      go_wp2_with fail
      go_ret
      exact ⟨rfl, HB2.out⟩
end Go.Proofs.YtoijhhacgafblaaDoor

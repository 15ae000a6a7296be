/- hash.Make where there is no table; hash.Valid; the chapter's examples. -/
import Derived.Test.YtniefpdibmpngaaHasD
import Derived.Test.YtniefpdibmpngaaHasH
namespace Go.Proofs.Ytniefpdibmpngaa
set_option linter.unusedVariables false
set_option linter.unusedSimpArgs false
open Go.Joins Go.ChangeShapes Go.WideShapes Go.ChangeAt Go.RowKit

theorem make_no (a : Option Addr) (m c : Nat) (n : Int) (h : n < 1 ∨ 64 < n ∨ 40 < m) (w : World) :
    Calls Try.prog 14 #[.slice a m c, .int .i64 n] w fun e w' => e = .returned (.tuple #[.agg #[.slice none 0 0, .slice none 0 0], .int .i64 1]) ∧ Below w.heap.size w w' := by
  by_cases h1 : n < 1
  · have d1 : decide (n < 1) = true := decide_eq_true h1
    go_enter Try.func14, Try.ntmps14
    go_wp2_with fail
    refine bodyPost_ret (v := .tuple #[.agg #[.slice none 0 0, .slice none 0 0], .int .i64 1]) ?_ rfl ⟨rfl, ?_⟩
    · simp [results, Try.results14, go_sem]
    · repeat' (first | (with_reducible refine Below.setCell ?_ ?_ _) | exact bAlloc (Below.refl _ _) _ | exact Nat.le_refl _)
  · by_cases h2 : 64 < n
    · have d1 : decide (n < 1) = false := decide_eq_false h1
      have d2 : decide (64 < n) = true := decide_eq_true h2
      go_enter Try.func14, Try.ntmps14
      go_wp2_with fail
      refine bodyPost_ret (v := .tuple #[.agg #[.slice none 0 0, .slice none 0 0], .int .i64 1]) ?_ rfl ⟨rfl, ?_⟩
      · simp [results, Try.results14, go_sem]
      · repeat' (first | (with_reducible refine Below.setCell ?_ ?_ _) | exact bAlloc (Below.refl _ _) _ | exact Nat.le_refl _)
    · have d1 : decide (n < 1) = false := decide_eq_false h1
      have d2 : decide (64 < n) = false := decide_eq_false h2
      have d3 : decide (40 < (m : Int)) = true := decide_eq_true (by omega)
      go_enter Try.func14, Try.ntmps14
      go_wp2_with fail
      refine bodyPost_ret (v := .tuple #[.agg #[.slice none 0 0, .slice none 0 0], .int .i64 1]) ?_ rfl ⟨rfl, ?_⟩
      · simp [results, Try.results14, go_sem]
      · repeat' (first | (with_reducible refine Below.setCell ?_ ?_ _) | exact bAlloc (Below.refl _ _) _ | exact Nat.le_refl _)
theorem quiet_below {w w' : World} (h : Quiet w w') : Below w.heap.size w w' := by obtain ⟨n, rfl⟩ := h; exact below_drewN w n
set_option maxHeartbeats 1000000 in
theorem valid_any (ab ac a : Option Addr) (l : List Sym) (cb cc c n k : Nat) (bz cz : List Int) (w : World) (hl : RdS w a l) (h3 : l.length ≤ 40) (hnm : ∀ s ∈ l, s.name.length < 9223372036854775808) (h1 : 1 ≤ n) (h2 : n ≤ 64)
    (hb : Rd w ab n (i64s bz)) (hch : Rd w ac k (i64s cz)) (hk : k ≤ 9223372036854775807) :
    Calls Try.prog 15 #[.agg #[.slice ab n cb, .slice ac k cc], .slice a l.length c] w fun e w' => e = .returned (.bool (decide (bz = bucketsZ l n n) && decide (cz = chainZ l n l.length))) ∧ Below w.heap.size w w' := by
  have HMK := Lib.hid fun W (hW : RdS W a l) => make_any a l c n h1 h2 h3 W hW hnm
  have HL := Lib.hid hl
  have HB := Lib.hid hb
  have HCH := Lib.hid hch
  obtain ⟨b1, hb1⟩ : ∃ x, decide (bz = bucketsZ l n n) = x := ⟨_, rfl⟩
  obtain ⟨b2, hb2⟩ : ∃ x, decide (cz = chainZ l n l.length) = x := ⟨_, rfl⟩
  rw [hb1, hb2]
  have HE1 := Lib.hid hb1
  have HE2 := Lib.hid hb2
  clear hb1 hb2 hl hb hch hnm
  generalize hlm : l.length = m at *
  have HLM := Lib.hid hlm
  clear hlm
  have hbx := boxed (w := w) (cs := #[.slice ab n cb, .slice ac k cc]) (t := 33) (Below.refl _ _)
  have x0 : (w.alloc (.cells #[.slice ab n cb, .slice ac k cc] 33)).cell? ⟨w.heap.size, 0, none⟩ = some (.slice ab n cb) := (hbx 0).trans rfl
  have x1 : (w.alloc (.cells #[.slice ab n cb, .slice ac k cc] 33)).cell? ⟨w.heap.size, 1, none⟩ = some (.slice ac k cc) := (hbx 1).trans rfl
  have X1 := Lib.hid x1
  clear hbx
  go_enter Try.func15, Try.ntmps15
  go_wp2_with fail
  refine (HMK.out _ (HL.out.below (bAlloc (Below.refl _ _) _))).mono ?_
  rintro e w1 ⟨B, C, rfl, hB, hC, hBl, hCl, hbel⟩
  rw [HLM.out] at hC ⊢
  have k0 := (hbel.cell (p := ⟨w.heap.size, 0, none⟩) (by simp)).trans x0
  have k1 := (hbel.cell (p := ⟨w.heap.size, 1, none⟩) (by simp)).trans x1
  have hz : w.heap.size < w1.heap.size := by have := hbel.size; simp at this; omega
  have HBEL := Lib.hid (bTrans (bAlloc (Below.refl _ _) _) hbel)
  have HB2 := Lib.hid hB
  have HC2 := Lib.hid hC
  have HBB := Lib.hid (HB.out.below HBEL.out)
  have HCC := Lib.hid (HCH.out.below HBEL.out)
  clear x0 x1 hbel hB hC hBl hCl
  cases b1
  · go_wp2_with fail
    refine (equal_any _ _ n _ n _ bz (bucketsZ l n n) _ (HBB.out.alloc _) (HB2.out.alloc _) (by omega) (by omega)).mono ?_
    rintro e w' ⟨rfl, nq, rfl⟩
    rw [HE1.out]
    go_wp2_with fail
    go_ret
    exact ⟨rfl, bDrewN (bAlloc HBEL.out _) _⟩
  · cases b2
    · go_wp2_with fail
      refine (equal_any _ _ n _ n _ bz (bucketsZ l n n) _ (HBB.out.alloc _) (HB2.out.alloc _) (by omega) (by omega)).mono ?_
      rintro e w' ⟨rfl, nq, rfl⟩
      rw [HE1.out]
      go_wp2_with fail
      refine (equal_any _ _ k _ m _ cz (chainZ l n m) _ ((HCC.out.alloc _).drewN _) ((HC2.out.alloc _).drewN _) (by omega) (by omega)).mono ?_
      rintro e w' ⟨rfl, nr, rfl⟩
      rw [HE2.out]
      go_wp2_with fail
      go_ret
      exact ⟨rfl, bDrewN (bAlloc HBEL.out _) _⟩
    · go_wp2_with fail
      refine (equal_any _ _ n _ n _ bz (bucketsZ l n n) _ (HBB.out.alloc _) (HB2.out.alloc _) (by omega) (by omega)).mono ?_
      rintro e w' ⟨rfl, nq, rfl⟩
      rw [HE1.out]
      go_wp2_with fail
      refine (equal_any _ _ k _ m _ cz (chainZ l n m) _ ((HCC.out.alloc _).drewN _) ((HC2.out.alloc _).drewN _) (by omega) (by omega)).mono ?_
      rintro e w' ⟨rfl, nr, rfl⟩
      rw [HE2.out]
      go_wp2_with fail
      go_ret
      exact ⟨rfl, bDrewN (bAlloc HBEL.out _) _⟩
/-! The chapter's three symbols. -/
def ex1 : Sym := ⟨[102], [], 0, 0, 1, 1, 1, true⟩
def ex2 : Sym := ⟨[102], [118, 49], 0, 0, 1, 2, 1, true⟩
def ex3 : Sym := ⟨[102], [118, 50], 0, 0, 1, 3, 1, true⟩
def exL : List Sym := [ex1, ex2, ex3]
theorem ex_rd (w : World) (t : TypeId) : RdS (w.alloc (.cells (symC ex1 ++ (symC ex2 ++ symC ex3)).toArray t)) (some ⟨w.heap.size, 0, none⟩) exL := by
  intro _
  refine ⟨w.heap.size, 0, rfl, by simp, fun k hk j => ?_⟩
  rcases Nat.lt_or_ge j 8 with hj | hj
  · refine Or.inl ((boxed (Below.refl _ _) _).trans ?_)
    have hk3 : k < 3 := hk
    rcases (by omega : k = 0 ∨ k = 1 ∨ k = 2) with rfl | rfl | rfl <;>
      (rcases (by omega : j = 0 ∨ j = 1 ∨ j = 2 ∨ j = 3 ∨ j = 4 ∨ j = 5 ∨ j = 6 ∨ j = 7) with rfl | rfl | rfl | rfl | rfl | rfl | rfl | rfl <;> rfl)
  · exact Or.inr hj
theorem ex_nm : ∀ s ∈ exL, s.name.length < 9223372036854775808 := by
  intro s hs
  simp only [exL, List.mem_cons, List.not_mem_nil, or_false] at hs
  rcases hs with rfl | rfl | rfl <;> decide
theorem ex_o0 : ofH [] = 0 := by decide +kernel
theorem ex_o1 : ofH [97] = 97 := by decide +kernel
theorem ex_o2 : ofH [112, 114, 105, 110, 116, 102] = 125371814 := by decide +kernel
theorem ex_f1 : findZ exL [102] [118, 50] 0 = 2 := by decide +kernel
theorem ex_f2 : findZ exL [102] [] 0 = 1 := by decide +kernel
theorem ex_f3 : findZ exL [102] [118, 51] 0 = -1 := by decide +kernel
set_option maxHeartbeats 1000000 in
theorem awake_any (w : World) :
    Calls Try.prog 9 #[] w fun e w' => e = .returned (.bool true) ∧ Below w.heap.size w w' := by
  have hrd := fun (w : World) => ex_rd w 24
  have HRD := Lib.hid hrd
  clear hrd
  go_enter Try.func9, Try.ntmps9
  go_wp2_with fail
  refine (of_any [] _ (by decide)).mono ?_; rintro e w' ⟨rfl, rfl⟩; rw [ex_o0]
  go_wp2_with fail
  refine (of_any [97] _ (by decide)).mono ?_; rintro e w' ⟨rfl, rfl⟩; rw [ex_o1]
  go_wp2_with fail
  refine (of_any [112, 114, 105, 110, 116, 102] _ (by decide)).mono ?_; rintro e w' ⟨rfl, rfl⟩; rw [ex_o2]
  go_wp2_with fail
  refine (make_any _ exL 3 3 (by decide) (by decide) (by decide) _ (HRD.out w) ex_nm).mono ?_
  rintro e w1 ⟨B, C, rfl, hB, hC, hBl, hCl, hbel⟩
  have HL := Lib.hid ((HRD.out w).below hbel)
  have HB := Lib.hid (bTrans (bAlloc (Below.refl _ _) _) hbel)
  have HBR := Lib.hid hB
  have HCR := Lib.hid hC
  clear hB hC hbel
  go_wp2_with fail
  refine (find_any _ _ _ exL _ _ _ 3 [102] [118, 50] _ (HL.out.below (bAlloc (Below.refl _ _) _)) (by decide) (by decide) (by decide) (by decide) (HBR.out.alloc _) (HCR.out.alloc _)).mono ?_
  rintro e w2 ⟨rfl, hb2⟩
  rw [ex_f1]
  have HB2 := Lib.hid (bTrans (bAlloc HB.out _) hb2)
  have HL2 := Lib.hid ((HL.out.below (bAlloc (Below.refl _ _) _)).below hb2)
  have HBR2 := Lib.hid ((HBR.out.alloc _).below hb2)
  have HCR2 := Lib.hid ((HCR.out.alloc _).below hb2)
  have x0 := (boxed hb2 0).trans rfl
  have x1 := (boxed hb2 1).trans rfl
  have hz : w1.heap.size < w2.heap.size := by have := hb2.size; simp at this; omega
  clear hb2 hBl hCl
  go_wp2_with fail
  refine (find_any _ _ _ exL _ _ _ 3 [102] [] _ HL2.out (by decide) (by decide) (by decide) (by decide) HBR2.out HCR2.out).mono ?_
  rintro e w3 ⟨rfl, hb3⟩
  rw [ex_f2]
  have y0 := (hb3.cell (p := ⟨w1.heap.size, 0, none⟩) hz).trans x0
  have y1 := (hb3.cell (p := ⟨w1.heap.size, 1, none⟩) hz).trans x1
  have HB3 := Lib.hid (bTrans HB2.out hb3)
  have HL3 := Lib.hid (HL2.out.below hb3)
  have HBR3 := Lib.hid (HBR2.out.below hb3)
  have HCR3 := Lib.hid (HCR2.out.below hb3)
  clear hb3 x0 x1
  go_wp2_with fail
  refine (find_any _ _ _ exL _ _ _ 3 [102] [118, 51] _ HL3.out (by decide) (by decide) (by decide) (by decide) HBR3.out HCR3.out).mono ?_
  rintro e w4 ⟨rfl, hb4⟩
  rw [ex_f3]
  have HB4 := Lib.hid (bTrans HB3.out hb4)
  clear hb4 y0 y1
  go_wp2_with fail
  go_ret
  exact ⟨rfl, HB4.out⟩
end Go.Proofs.Ytniefpdibmpngaa

/- The chapter's examples: number, awake. -/
import Derived.Test.YtaiphmmdallhcaaDoorIsaF
import Derived.Test.YtaiphmmdallhcaaDoorIsaG
namespace Go.Proofs.YtaiphmmdallhcaaDoor
set_option linter.unusedVariables false
set_option linter.unusedSimpArgs false
open Go.Joins Go.ChangeShapes Go.WideShapes Go.ChangeAt Go.RowKit

def findC (s : List UInt8) (r : Nat) : Bool := decide (1 ≤ r) && (decide (r ≤ 82) && ((opN (r : Int) == s) && ((List.range (r - 1)).all fun k => !(opN ((k : Int) + 1) == s))))
theorem findP_of (s : List UInt8) (r : Nat) (h : findC s r = true) : FindP s r := by
  unfold findC at h
  rw [Bool.and_eq_true, Bool.and_eq_true, Bool.and_eq_true, decide_eq_true_iff, decide_eq_true_iff, List.all_eq_true] at h
  obtain ⟨h1, h2, h3, h4⟩ := h
  refine .inr ⟨h1, h2, h3, fun k hk => ?_⟩
  have := h4 k (List.mem_range.mpr (by omega))
  rwa [Bool.not_eq_true'] at this
def noneC (x : Nat) : Bool := (List.range 82).all fun k => !hitB (bareN ((k : Int) + 1)) x
theorem decP_none (x : Nat) (h : noneC x = true) : DecP x 0 := by
  unfold noneC at h
  rw [List.all_eq_true] at h
  refine .inl ⟨rfl, fun k hk => ?_⟩
  have := h k (List.mem_range.mpr hk)
  rwa [Bool.not_eq_true'] at this
theorem number_any (s : List UInt8) (r : Nat) (hr : FindP s r) (rd rs1 rs2 n : Int) (w : World) (hn : NT w) (hi : I64 n) :
    Calls Tryd.prog 19 #[.string ⟨s.toArray⟩, .int .i64 rd, .int .i64 rs1, .int .i64 rs2, .int .i64 n] w fun e w' => e = .returned (.int .u32 ((encR r rd rs1 rs2 n : Nat) : Int)) ∧ Below w.heap.size w w' := by
  have HN := Lib.hid hn
  have HR := Lib.hid hr
  have HI := Lib.hid hi
  clear hn hr hi
  go_enter Tryd.func19, Tryd.ntmps19
  go_wp2_with fail
  refine (find_any s r HR.out _ HN.out).mono ?_; rintro e w' ⟨rfl, rfl⟩
  go_wp2_with fail
  refine (encode_any _ _ _ _ _ _ HN.out HI.out).mono ?_; rintro e w1 ⟨rfl, q1⟩
  have Q1 := Lib.hid q1
  clear q1
  go_wp2_with fail
  go_ret
  exact ⟨rfl, Q1.out⟩
theorem ex1 : FindP [97, 100, 100, 105] 29 := findP_of _ _ (by decide +kernel)
theorem ex2 : FindP [115, 100] 53 := findP_of _ _ (by decide +kernel)
theorem ex3 : FindP [98, 101, 113] 55 := findP_of _ _ (by decide +kernel)
theorem ex4 : FindP [99, 115, 101, 116, 98, 111, 117, 110, 100, 115] 67 := findP_of _ _ (by decide +kernel)
theorem ex5 : FindP [101, 99, 97, 108, 108] 65 := findP_of _ _ (by decide +kernel)
theorem en1 : encR 29 1 0 0 5 = 5243027 := by decide +kernel
theorem en2 : encR 53 0 1 2 8 = 2143267 := by decide +kernel
theorem en3 : encR 55 0 1 2 (-4) = 4263546595 := by decide +kernel
theorem en4 : encR 67 3 1 2 0 = 270565851 := by decide +kernel
theorem en5 : encR 65 0 0 0 0 = 115 := by decide +kernel
theorem de1 : DecP 0 0 := decP_none _ (by decide +kernel)
theorem de2 : DecP 4294967295 0 := decP_none _ (by decide +kernel)
theorem de3 : DecP 4263546595 55 := .inr ⟨by decide, by decide, by decide +kernel⟩
theorem dv0 (x : Nat) : decV x 0 = instV 0 0 0 0 0 := by unfold decV; rw [if_pos rfl]
theorem dv3 : decV 4263546595 55 = instV 55 0 1 2 (-4) := by kernel_rfl
set_option maxHeartbeats 2000000 in
theorem awake_any (w : World) (hn : NT w) :
    Calls Tryd.prog 9 #[] w fun e w' => e = .returned (.bool true) ∧ Below w.heap.size w w' := by
  have HN := Lib.hid hn
  clear hn
  go_enter Tryd.func9, Tryd.ntmps9
  go_wp2_with fail
  refine (number_any _ 29 ex1 _ _ _ _ _ HN.out (by decide)).mono ?_; rintro e w1 ⟨rfl, q1⟩
  rw [show encR (29 : Nat) 1 0 0 5 = 5243027 from en1]
  have Q1 := Lib.hid q1
  clear q1
  go_wp2_with fail
  refine (number_any _ 53 ex2 _ _ _ _ _ (HN.out.on Q1.out) (by decide)).mono ?_; rintro e w2 ⟨rfl, q2⟩
  rw [show encR (53 : Nat) 0 1 2 8 = 2143267 from en2]
  have Q2 := Lib.hid (bTrans Q1.out q2)
  clear q2 Q1
  go_wp2_with fail
  refine (number_any _ 55 ex3 _ _ _ _ _ (HN.out.on Q2.out) (by decide)).mono ?_; rintro e w3 ⟨rfl, q3⟩
  rw [show encR (55 : Nat) 0 1 2 (-4) = 4263546595 from en3]
  have Q3 := Lib.hid (bTrans Q2.out q3)
  clear q3 Q2
  go_wp2_with fail
  refine (number_any _ 67 ex4 _ _ _ _ _ (HN.out.on Q3.out) (by decide)).mono ?_; rintro e w4 ⟨rfl, q4⟩
  rw [show encR (67 : Nat) 3 1 2 0 = 270565851 from en4]
  have Q4 := Lib.hid (bTrans Q3.out q4)
  clear q4 Q3
  go_wp2_with fail
  refine (number_any _ 65 ex5 _ _ _ _ _ (HN.out.on Q4.out) (by decide)).mono ?_; rintro e w5 ⟨rfl, q5⟩
  rw [show encR (65 : Nat) 0 0 0 0 = 115 from en5]
  have Q5 := Lib.hid (bTrans Q4.out q5)
  clear q5 Q4
  go_wp2_with fail
  refine (decode_any 0 0 (by decide) de1 _ (HN.out.on Q5.out)).mono ?_; rintro e w6 ⟨rfl, q6⟩
  rw [dv0, show decE 0 = 40 from rfl]
  unfold instV
  have Q6 := Lib.hid (bTrans Q5.out q6)
  clear q6 Q5
  go_wp2_with fail
  refine (decode_any 4294967295 0 (by decide) de2 _ (HN.out.on (bAlloc Q6.out _))).mono ?_; rintro e w7 ⟨rfl, q7⟩
  rw [dv0, show decE 0 = 40 from rfl]
  unfold instV
  have Q7 := Lib.hid (bTrans (bAlloc Q6.out _) q7)
  clear q7 Q6
  go_wp2_with fail
  refine (decode_any 4263546595 55 (by decide) de3 _ (HN.out.on (bAlloc Q7.out _))).mono ?_; rintro e w8 ⟨rfl, q8⟩
  rw [dv3, show decE 55 = 0 from rfl]
  unfold instV
  have Q8 := Lib.hid (bTrans (bAlloc Q7.out _) q8)
  clear q8 Q7
  go_wp2_with fail
  all_goals (go_ret; exact ⟨rfl, bAlloc Q8.out _⟩)
end Go.Proofs.YtaiphmmdallhcaaDoor

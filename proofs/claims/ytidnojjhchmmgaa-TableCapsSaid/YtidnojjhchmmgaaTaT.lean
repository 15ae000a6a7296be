/- Types, the chapter's object: contracts. -/
import Derived.Test.YtidnojjhchmmgaaTaE
import Derived.Test.YtidnojjhchmmgaaTaG
import Derived.Test.YtidnojjhchmmgaaCgS
import Derived.Test.YtidnojjhchmmgaaCeL
import Derived.Test.YtidnojjhchmmgaaCeN
import Derived.Test.YtidnojjhchmmgaaCeU
namespace Go.Proofs.Ytidnojjhchmmgaa
set_option linter.unusedVariables false
set_option linter.unusedSimpArgs false
open Go.Joins Go.ChangeShapes Go.WideShapes Go.ChangeAt Go.RowKit Go.Deep

theorem infoInt8 : (Try.prog.info? 3).map (fun i => (i.zero, i.size, i.bytes)) = some (some (.int .i64 0), 1, 8) := by kernel_rfl
theorem i64s_snoc' (l : List Int) (x : Int) : i64s (l ++ [x]) = i64s l ++ [.int .i64 x] := by simp [i64s]
theorem take_seq (k : Nat) (h : k < 3) : ([5, 6, 7] : List Int).take (k + 1) = ([5, 6, 7] : List Int).take k ++ [(5 + k : Int)] := by
  rcases (show k = 0 ∨ k = 1 ∨ k = 2 by omega) with rfl | rfl | rfl <;> rfl
theorem types35 (W : World) :
    Calls Try.prog 12 #[.int .i64 3, .int .i64 5] W fun e W' => ∃ (a : Option Addr) (c : Nat), e = .returned (.tuple #[.slice a 3 c, .int .i64 0]) ∧ Rd W' a 3 (i64s [5, 6, 7]) ∧ Below W.heap.size W W' := by
  have HZ : Hid (W.ownsRow W.heap.size 3 1 (.slice none 0 0) 0 (i64s (([5, 6, 7] : List Int).take 0))) := Lib.hid (World.ownsRow_nil _ _ _ _)
  go_enter Try.func12, Try.ntmps12
  go_wp2_with fail
  go_loopw [6, 7, 25] (fun v6 _ i wr => ∃ k : Nat, i = .int .i64 k ∧ k ≤ 3 ∧ Hid (wr.ownsRow W.heap.size 3 1 v6 k (i64s (([5, 6, 7] : List Int).take k))) ∧ Hid (Below W.heap.size W wr)) (fun _ _ i _ => 3 - (intOf i).toNat)
  case atStart => exact ⟨0, rfl, by omega, HZ, Lib.hid (Below.refl _ _)⟩
  case round =>
    clear HZ
    obtain ⟨k, rfl, hk, HO, HB⟩ := hrel
    obtain ⟨va, vc, rfl, hvc⟩ := own_slice HO.out
    by_cases hlt : k < 3
    · have kk0 : (0 : Int) ≤ (k : Int) := by omega
      have kk1 : (k : Int) < 3 := by omega
      have HT := Lib.hid (take_seq k hlt)
      have w1 : IntKind.i64.wrap (5 + (k : Int)) = 5 + (k : Int) := by rw [IntKind.wrap_i64]; omega
      have hsz := HB.out.size
      have HKL := Lib.hid hlt
      clear hlt hk
      go_wp2_with (at_builtin; refine wpList_appE 26 3 (.int .i64 0) 1 8 Try.underlying26 infoInt8 rfl (by decide) (by decide) _ rfl _ _ rfl W.heap.size (.slice va k vc) k (i64s (([5, 6, 7] : List Int).take k)) rfl (HO.out.alloc _) (some ⟨wr.heap.size, 0, none⟩) 1 1 [.int .i64 (5 + (k : Int))] rfl (Rd.lit wr #[.int .i64 (5 + (k : Int))] 3 (by show 1 ≤ maxLen; decide)) (fun u hu => by simp at hu; subst hu; rfl) (by have := HKL.out; omega) (by rw [size_alloc]; exact Nat.le_succ_of_le hsz) ?_; intro a3 c3 W3 hown3 hgrow3 hat3)
      have HO3 : Hid (W3.ownsRow W.heap.size 3 1 (.slice a3 (k + 1) c3) (k + 1) (i64s (([5, 6, 7] : List Int).take (k + 1)))) := Lib.hid (by rw [HT.out, i64s_snoc']; exact hown3)
      have HB3 := Lib.hid (grownB (bTrans HB.out (bAlloc (Below.refl _ _) (.cells #[.int .i64 (5 + (k : Int))] 3))) hgrow3 (fun r e => (HO.out.lt r e).1))
      clear hown3 hgrow3 hat3 HO HB
      go_wp2_with fail
      go_roundw
      case rel => exact ⟨k + 1, by go_num, HKL.out, HO3, HB3⟩
      case measure => have := HKL.out; simp [intOf]; omega
    · obtain rfl : k = 3 := by omega
      have hr := own_rd HO.out
      rw [Nat.mul_one] at hr
      have HR := Lib.hid hr
      clear hr HO
      go_wp2_with fail
      go_ret2
      exact ⟨va, vc, rfl, HR.out, HB.out⟩
/-! The chapter's object. -/
def libG : List Seg := [⟨0, 8, 5, [], none, 0⟩, ⟨256, 300, 3, [], none, 0⟩]
def libS : List Sym := [⟨[102], [], 4, 4, 1, 2, 1, true⟩, ⟨[100], [], 300, 2, 2, 2, 1, true⟩]
theorem lib_any (W : World) :
    Calls Try.prog 13 #[] W fun e W' => ∃ (ga sa ra : Option Addr), e = .returned (.agg #[.string ⟨#[97]⟩, .slice none 0 0, .slice ga 2 2, .slice sa 2 2, .slice ra 1 1, .slice none 0 0, .slice none 0 0]) ∧ RdG W' ga libG ∧ RdS W' sa libS ∧ Below W.heap.size W W' := by
  go_enter Try.func13, Try.ntmps13
  go_wp2_with fail
  have h1 := Rd.lit1 W (.cells #[.string ⟨#[97]⟩, .slice none 0 0, .slice (some ⟨W.heap.size + 1, 0, none⟩) 2 2, .slice (some ⟨W.heap.size + 1 + 1, 0, none⟩) 2 2, .slice (some ⟨W.heap.size + 1 + 1 + 1, 0, none⟩) 1 1, .slice none 0 0, .slice none 0 0] 28) #[.int .u64 0, .int .u64 8, .int .i64 5, .slice none 0 0, .int .u64 256, .int .u64 300, .int .i64 3, .slice none 0 0] 61 (by show 8 ≤ maxLen; decide)
  have h2 := Rd.lit ((W.alloc (.cells #[.string ⟨#[97]⟩, .slice none 0 0, .slice (some ⟨W.heap.size + 1, 0, none⟩) 2 2, .slice (some ⟨W.heap.size + 1 + 1, 0, none⟩) 2 2, .slice (some ⟨W.heap.size + 1 + 1 + 1, 0, none⟩) 1 1, .slice none 0 0, .slice none 0 0] 28)).alloc (.cells #[.int .u64 0, .int .u64 8, .int .i64 5, .slice none 0 0, .int .u64 256, .int .u64 300, .int .i64 3, .slice none 0 0] 61)) #[.string ⟨#[102]⟩, .string ⟨#[]⟩, .int .u64 4, .int .u64 4, .int .i64 1, .int .i64 2, .int .i64 1, .bool true, .string ⟨#[100]⟩, .string ⟨#[]⟩, .int .u64 300, .int .u64 2, .int .i64 2, .int .i64 2, .int .i64 1, .bool true] 35 (by show 16 ≤ maxLen; decide)
  rw [size_alloc, size_alloc] at h2
  exact bodyPost_ret (v := .agg #[.string ⟨#[97]⟩, .slice none 0 0, .slice (some ⟨W.heap.size + 1, 0, none⟩) 2 2, .slice (some ⟨W.heap.size + 1 + 1, 0, none⟩) 2 2, .slice (some ⟨W.heap.size + 1 + 1 + 1, 0, none⟩) 1 1, .slice none 0 0, .slice none 0 0]) (by simp [results, Try.results13, go_sem]) rfl ⟨_, _, _, rfl, (h1.alloc _).alloc _, h2.alloc _, bAlloc (bAlloc (bAlloc (bAlloc (Below.refl _ _) _) _) _) _⟩
theorem libG_ok : SegsOk libG := by
  constructor
  · intro s hs
    simp only [libG, List.mem_cons, List.not_mem_nil, or_false] at hs
    rcases hs with rfl | rfl <;> decide
  · intro s hs
    simp only [libG, List.mem_cons, List.not_mem_nil, or_false] at hs
    rcases hs with rfl | rfl <;> decide
theorem libF : SymIn libG 4 4 0 ⟨0, 8, 5, [], none, 0⟩ := ⟨by decide, rfl, by decide, by decide, by unfold u64B; decide, by unfold u64B; decide⟩
theorem libD : SymIn libG 300 2 1 ⟨256, 300, 3, [], none, 0⟩ := ⟨by decide, rfl, by decide, by decide, by unfold u64B; decide, by unfold u64B; decide⟩
set_option maxHeartbeats 4000000 in
set_option maxRecDepth 100000 in
theorem awake_any (W : World) :
    Calls Try.prog 5 #[] W fun e W' => e = .returned (.bool true) ∧ Below W.heap.size W W' := by
  go_enter Try.func5, Try.ntmps5
  go_wp2_with fail
  refine (types35 _).mono ?_; rintro e W1 ⟨ta, tc, rfl, hr, hb⟩
  have B1 := Lib.hid hb
  have T1 := Lib.hid hr
  clear hr hb
  go_wp2_with fail
  refine (lib_any _).mono ?_; rintro e W2 ⟨ga, sa, ra, rfl, hg, hs, hb⟩
  have B2 := Lib.hid (B1.out.trans (hb.mono B1.out.size))
  have T2 := Lib.hid (T1.out.below hb)
  have C := Lib.hid (entry_any (.string ⟨#[97]⟩) (.slice none 0 0) (.slice ra 1 1) (.slice none 0 0) (.slice none 0 0) ga sa 2 2 2 2 libG libS 1024 0 ⟨[102], [], 4, 4, 1, 2, 1, true⟩ 0 ⟨0, 8, 5, [], none, 0⟩ W2 rfl hg (by decide) libG_ok (by decide) (by decide) rfl hs rfl libF 1024 1032 13 1028 141 5 1280 1580 155 rfl rfl (by decide) rfl rfl (by decide) (by decide) (by decide))
  clear hg hs hb
  go_wp2_with fail
  refine C.out.mono ?_; rintro e W3 ⟨rfl, hb⟩
  have B3 := Lib.hid (B2.out.trans (hb.mono B2.out.size))
  have T3 := Lib.hid (T2.out.below hb)
  clear hb C
  go_wp2_with fail
  obtain ⟨W4, hW4⟩ : ∃ W, (W3.alloc (.cells #[.int .u64 1024, .int .u64 1032, .int .u64 1028, .int .i64 141, .int .i64 5, .bool true] 37)).alloc (.cells #[.int .u64 1280, .int .u64 1580, .int .u64 1280, .int .i64 155, .int .i64 5, .bool true] 37) = W := ⟨_, rfl⟩
  rw [hW4]
  have B4 : Hid (Below W.heap.size W W4) := Lib.hid (by rw [← hW4]; exact bAlloc (bAlloc B3.out _) _)
  have T4 : Hid (Rd W4 ta 3 (i64s [5, 6, 7])) := Lib.hid (by rw [← hW4]; exact (T3.out.alloc _).alloc _)
  have X4 : Hid (BoxN W4 W3.heap.size #[.int .u64 1024, .int .u64 1032, .int .u64 1028, .int .i64 141, .int .i64 5, .bool true]) := Lib.hid (by rw [← hW4]; exact boxN_below (BoxN.new W3 _ _) (bAlloc (Below.refl _ _) _))
  have Y4 : Hid (BoxN W4 (W3.heap.size + 1) #[.int .u64 1280, .int .u64 1580, .int .u64 1280, .int .i64 155, .int .i64 5, .bool true]) := Lib.hid (by
    rw [← hW4]
    have h := BoxN.new (W3.alloc (.cells #[.int .u64 1024, .int .u64 1032, .int .u64 1028, .int .i64 141, .int .i64 5, .bool true] 37)) #[.int .u64 1280, .int .u64 1580, .int .u64 1280, .int .i64 155, .int .i64 5, .bool true] 37
    rw [size_alloc] at h
    exact h)
  clear hW4 B3 T3 T2 T1 B1 B2
  obtain ⟨P, hP⟩ : ∃ P, W3.heap.size = P := ⟨_, rfl⟩
  rw [hP] at X4 Y4 ⊢
  clear hP
  refine (lib_any _).mono ?_; rintro e W5 ⟨ga, sa, ra, rfl, hg, hs, hb⟩
  have B5 := Lib.hid (B4.out.trans (hb.mono B4.out.size))
  have T5 := Lib.hid (T4.out.below hb)
  have X5 := Lib.hid (boxN_below X4.out hb)
  have Y5 := Lib.hid (boxN_below Y4.out hb)
  have C := Lib.hid (data_any (.string ⟨#[97]⟩) (.slice none 0 0) (.slice ra 1 1) (.slice none 0 0) (.slice none 0 0) ga sa 2 2 2 2 libG libS 1024 1 ⟨[100], [], 300, 2, 2, 2, 1, true⟩ 1 ⟨256, 300, 3, [], none, 0⟩ W5 rfl hg (by decide) libG_ok (by decide) (by decide) rfl hs rfl libD 1280 1580 27 1324 1326 rfl rfl (by decide) rfl rfl)
  clear hg hs hb B4 T4 X4 Y4
  go_wp2_with fail
  refine C.out.mono ?_; rintro e W6 ⟨rfl, hb⟩
  have B6 := Lib.hid (B5.out.trans (hb.mono B5.out.size))
  have T6 := Lib.hid (T5.out.below hb)
  have X6 := Lib.hid (boxN_below X5.out hb)
  have Y6 := Lib.hid (boxN_below Y5.out hb)
  clear hb C B5 T5 X5 Y5
  go_wp2_with fail
  obtain ⟨W7, hW7⟩ : ∃ W, W6.alloc (.cells #[.int .u64 1324, .int .u64 1326, .int .u64 1324, .int .i64 27, .int .i64 (-1), .bool true] 37) = W := ⟨_, rfl⟩
  rw [hW7]
  have B7 : Hid (Below W.heap.size W W7) := Lib.hid (by rw [← hW7]; exact bAlloc B6.out _)
  have T7 : Hid (Rd W7 ta 3 (i64s [5, 6, 7])) := Lib.hid (by rw [← hW7]; exact T6.out.alloc _)
  have X7 : Hid (BoxN W7 P #[.int .u64 1024, .int .u64 1032, .int .u64 1028, .int .i64 141, .int .i64 5, .bool true]) := Lib.hid (by rw [← hW7]; exact boxN_below X6.out (bAlloc (Below.refl _ _) _))
  have Y7 : Hid (BoxN W7 (P + 1) #[.int .u64 1280, .int .u64 1580, .int .u64 1280, .int .i64 155, .int .i64 5, .bool true]) := Lib.hid (by rw [← hW7]; exact boxN_below Y6.out (bAlloc (Below.refl _ _) _))
  have Z7 : Hid (BoxN W7 W6.heap.size #[.int .u64 1324, .int .u64 1326, .int .u64 1324, .int .i64 27, .int .i64 (-1), .bool true]) := Lib.hid (by rw [← hW7]; exact BoxN.new W6 _ _)
  have hz7 : W7.heap.size = W6.heap.size + 1 := by rw [← hW7, size_alloc]
  clear hW7 B6 T6 X6 Y6
  obtain ⟨R, hR⟩ : ∃ R, W6.heap.size = R := ⟨_, rfl⟩
  rw [hR] at Z7 hz7 ⊢
  clear hR
  have hrl := Rd.lit W7 #[.int .i64 5, .int .i64 6, .int .i64 7] 3 (by show 3 ≤ maxLen; decide)
  rw [hz7] at hrl
  have CN := Lib.hid (numbers_eq ta (some ⟨R + 1, 0, none⟩) 3 tc 3 [5, 6, 7] (W7.alloc (.cells #[.int .i64 5, .int .i64 6, .int .i64 7] 3)) rfl (T7.out.alloc _) hrl (by decide))
  refine CN.out.mono ?_
  rintro e W8 ⟨rfl, hb⟩
  have hb2 : Below W7.heap.size W7 W8 := bTrans (w := W7) (bAlloc (Below.refl _ _) _) hb
  have B8 := Lib.hid (B7.out.trans (hb2.mono B7.out.size))
  obtain ⟨⟨c0, c1, c2, c3, c4, c5⟩, -⟩ := boxN6 (boxN_below X7.out hb2)
  obtain ⟨⟨d0, d1, d2, d3, d4, d5⟩, -⟩ := boxN6 (boxN_below Y7.out hb2)
  obtain ⟨⟨e0, e1, e2, e3, e4, e5⟩, -⟩ := boxN6 (boxN_below Z7.out hb2)
  clear hb hb2 B7 T7 X7 Y7 Z7 CN hrl hz7
  go_wp2_with fail
  go_ret
  exact ⟨rfl, B8.out⟩
end Go.Proofs.Ytidnojjhchmmgaa

/- What an operation of a name reckons. -/
import Derived.Test.YtoijhhacgafblabDoorAluO
import Derived.Test.YtoijhhacgafblabDoorAluD
namespace Go.Proofs.YtoijhhacgafblabDoor
set_option linter.unusedVariables false
set_option linter.unusedSimpArgs false
open Go.Joins Go.ChangeShapes Go.WideShapes Go.ChangeAt Go.RowKit

theorem opN_ne : ∀ j k : Fin 83, 1 ≤ j.val → j.val < k.val → (opN j.val == opN k.val) = false := by decide +kernel
theorem find_k (k : Nat) (h1 : 1 ≤ k) (h2 : k ≤ 82) (w : World) : Calls Tryd.prog 20 #[.string ⟨(opN k).toArray⟩] w fun e w' => e = .returned (.int .i64 k) ∧ Below w.heap.size w w' :=
  find_any k h1 h2 (fun j a b => opN_ne ⟨j, by omega⟩ ⟨k, by omega⟩ a b) w
theorem ofl_any (k : Nat) (h1 : 1 ≤ k) (h2 : k ≤ 41) (a b : Int) (w : World) (z : Int) (hr : ∀ w, Calls Tryd.prog 12 #[.int .i64 k, .int .u64 a, .int .u64 b] w fun e w' => e = .returned (.tuple #[.int .u64 z, .bool true]) ∧ Below w.heap.size w w') :
    Calls Tryd.prog 18 #[.string ⟨(opN k).toArray⟩, .int .u64 a, .int .u64 b] w fun e w' => e = .returned (.int .u64 z) ∧ Below w.heap.size w w' := by
  have hf := fun w => find_k k h1 (by omega) w
  generalize opN k = s at hf ⊢
  have HF := Lib.hid hf
  have HR := Lib.hid hr
  clear hf hr h1 h2
  go_enter Tryd.func18, Tryd.ntmps18
  go_wp2_with fail
  refine (HF.out _).mono ?_; rintro e w1 ⟨rfl, hb⟩; have HB1 := Lib.hid hb; clear hb
  go_wp2_with fail
  refine (HR.out _).mono ?_; rintro e w2 ⟨rfl, hb⟩; have HB2 := Lib.hid (bTrans HB1.out hb); clear hb
  go_wp2_with fail
  go_ret
  exact ⟨rfl, HB2.out⟩
theorem of_add (a b : Int) (w : World) (ha : Inw a) (hb : Inw b) : Calls Tryd.prog 18 #[.string ⟨#[97, 100, 100]⟩, .int .u64 a, .int .u64 b] w fun e w' => e = .returned (.int .u64 (IntKind.u64.wrap (a + b))) ∧ Below w.heap.size w w' :=
  ofl_any 1 (by decide) (by decide) a b w (reckZ 1 a b) (fun w => reckon_1 a b w ha hb)
theorem of_sub (a b : Int) (w : World) (ha : Inw a) (hb : Inw b) : Calls Tryd.prog 18 #[.string ⟨#[115, 117, 98]⟩, .int .u64 a, .int .u64 b] w fun e w' => e = .returned (.int .u64 (IntKind.u64.wrap (a - b))) ∧ Below w.heap.size w w' :=
  ofl_any 2 (by decide) (by decide) a b w (reckZ 2 a b) (fun w => reckon_2 a b w ha hb)
theorem of_sll (a b : Int) (w : World) (ha : Inw a) (hb : Inw b) : Calls Tryd.prog 18 #[.string ⟨#[115, 108, 108]⟩, .int .u64 a, .int .u64 b] w fun e w' => e = .returned (.int .u64 (IntKind.u64.wrap (a * 2 ^ (b % 64).toNat))) ∧ Below w.heap.size w w' :=
  ofl_any 3 (by decide) (by decide) a b w (reckZ 3 a b) (fun w => reckon_3 a b w ha hb)
theorem of_slt (a b : Int) (w : World) (ha : Inw a) (hb : Inw b) : Calls Tryd.prog 18 #[.string ⟨#[115, 108, 116]⟩, .int .u64 a, .int .u64 b] w fun e w' => e = .returned (.int .u64 (numZ (decide (wrap64 (a) < wrap64 (b))))) ∧ Below w.heap.size w w' :=
  ofl_any 4 (by decide) (by decide) a b w (reckZ 4 a b) (fun w => reckon_4 a b w ha hb)
theorem of_sltu (a b : Int) (w : World) (ha : Inw a) (hb : Inw b) : Calls Tryd.prog 18 #[.string ⟨#[115, 108, 116, 117]⟩, .int .u64 a, .int .u64 b] w fun e w' => e = .returned (.int .u64 (numZ (decide (a < b)))) ∧ Below w.heap.size w w' :=
  ofl_any 5 (by decide) (by decide) a b w (reckZ 5 a b) (fun w => reckon_5 a b w ha hb)
theorem of_xor (a b : Int) (w : World) (ha : Inw a) (hb : Inw b) : Calls Tryd.prog 18 #[.string ⟨#[120, 111, 114]⟩, .int .u64 a, .int .u64 b] w fun e w' => e = .returned (.int .u64 (bits .xor .u64 (a) (b))) ∧ Below w.heap.size w w' :=
  ofl_any 6 (by decide) (by decide) a b w (reckZ 6 a b) (fun w => reckon_6 a b w ha hb)
theorem of_srl (a b : Int) (w : World) (ha : Inw a) (hb : Inw b) : Calls Tryd.prog 18 #[.string ⟨#[115, 114, 108]⟩, .int .u64 a, .int .u64 b] w fun e w' => e = .returned (.int .u64 (a / 2 ^ (b % 64).toNat)) ∧ Below w.heap.size w w' :=
  ofl_any 7 (by decide) (by decide) a b w (reckZ 7 a b) (fun w => reckon_7 a b w ha hb)
theorem of_sra (a b : Int) (w : World) (ha : Inw a) (hb : Inw b) : Calls Tryd.prog 18 #[.string ⟨#[115, 114, 97]⟩, .int .u64 a, .int .u64 b] w fun e w' => e = .returned (.int .u64 (IntKind.u64.wrap (wrap64 (a) / 2 ^ (b % 64).toNat))) ∧ Below w.heap.size w w' :=
  ofl_any 8 (by decide) (by decide) a b w (reckZ 8 a b) (fun w => reckon_8 a b w ha hb)
theorem of_or (a b : Int) (w : World) (ha : Inw a) (hb : Inw b) : Calls Tryd.prog 18 #[.string ⟨#[111, 114]⟩, .int .u64 a, .int .u64 b] w fun e w' => e = .returned (.int .u64 (bits .or .u64 (a) (b))) ∧ Below w.heap.size w w' :=
  ofl_any 9 (by decide) (by decide) a b w (reckZ 9 a b) (fun w => reckon_9 a b w ha hb)
theorem of_and (a b : Int) (w : World) (ha : Inw a) (hb : Inw b) : Calls Tryd.prog 18 #[.string ⟨#[97, 110, 100]⟩, .int .u64 a, .int .u64 b] w fun e w' => e = .returned (.int .u64 (bits .and .u64 (a) (b))) ∧ Below w.heap.size w w' :=
  ofl_any 10 (by decide) (by decide) a b w (reckZ 10 a b) (fun w => reckon_10 a b w ha hb)
theorem of_mul (a b : Int) (w : World) (ha : Inw a) (hb : Inw b) : Calls Tryd.prog 18 #[.string ⟨#[109, 117, 108]⟩, .int .u64 a, .int .u64 b] w fun e w' => e = .returned (.int .u64 (IntKind.u64.wrap (a * b))) ∧ Below w.heap.size w w' :=
  ofl_any 11 (by decide) (by decide) a b w (reckZ 11 a b) (fun w => reckon_11 a b w ha hb)
theorem of_mulh (a b : Int) (w : World) (ha : Inw a) (hb : Inw b) : Calls Tryd.prog 18 #[.string ⟨#[109, 117, 108, 104]⟩, .int .u64 a, .int .u64 b] w fun e w' => e = .returned (.int .u64 (highZ (a) (b) true true)) ∧ Below w.heap.size w w' :=
  ofl_any 12 (by decide) (by decide) a b w (reckZ 12 a b) (fun w => reckon_12 a b w ha hb)
theorem of_mulhsu (a b : Int) (w : World) (ha : Inw a) (hb : Inw b) : Calls Tryd.prog 18 #[.string ⟨#[109, 117, 108, 104, 115, 117]⟩, .int .u64 a, .int .u64 b] w fun e w' => e = .returned (.int .u64 (highZ (a) (b) true false)) ∧ Below w.heap.size w w' :=
  ofl_any 13 (by decide) (by decide) a b w (reckZ 13 a b) (fun w => reckon_13 a b w ha hb)
theorem of_mulhu (a b : Int) (w : World) (ha : Inw a) (hb : Inw b) : Calls Tryd.prog 18 #[.string ⟨#[109, 117, 108, 104, 117]⟩, .int .u64 a, .int .u64 b] w fun e w' => e = .returned (.int .u64 (highZ (a) (b) false false)) ∧ Below w.heap.size w w' :=
  ofl_any 14 (by decide) (by decide) a b w (reckZ 14 a b) (fun w => reckon_14 a b w ha hb)
theorem of_div (a b : Int) (w : World) (ha : Inw a) (hb : Inw b) : Calls Tryd.prog 18 #[.string ⟨#[100, 105, 118]⟩, .int .u64 a, .int .u64 b] w fun e w' => e = .returned (.int .u64 (quotZ (a) (b) true)) ∧ Below w.heap.size w w' :=
  ofl_any 15 (by decide) (by decide) a b w (reckZ 15 a b) (fun w => reckon_15 a b w ha hb)
theorem of_divu (a b : Int) (w : World) (ha : Inw a) (hb : Inw b) : Calls Tryd.prog 18 #[.string ⟨#[100, 105, 118, 117]⟩, .int .u64 a, .int .u64 b] w fun e w' => e = .returned (.int .u64 (quotZ (a) (b) false)) ∧ Below w.heap.size w w' :=
  ofl_any 16 (by decide) (by decide) a b w (reckZ 16 a b) (fun w => reckon_16 a b w ha hb)
theorem of_rem (a b : Int) (w : World) (ha : Inw a) (hb : Inw b) : Calls Tryd.prog 18 #[.string ⟨#[114, 101, 109]⟩, .int .u64 a, .int .u64 b] w fun e w' => e = .returned (.int .u64 (restZ (a) (b) true)) ∧ Below w.heap.size w w' :=
  ofl_any 17 (by decide) (by decide) a b w (reckZ 17 a b) (fun w => reckon_17 a b w ha hb)
theorem of_remu (a b : Int) (w : World) (ha : Inw a) (hb : Inw b) : Calls Tryd.prog 18 #[.string ⟨#[114, 101, 109, 117]⟩, .int .u64 a, .int .u64 b] w fun e w' => e = .returned (.int .u64 (restZ (a) (b) false)) ∧ Below w.heap.size w w' :=
  ofl_any 18 (by decide) (by decide) a b w (reckZ 18 a b) (fun w => reckon_18 a b w ha hb)
theorem of_addw (a b : Int) (w : World) (ha : Inw a) (hb : Inw b) : Calls Tryd.prog 18 #[.string ⟨#[97, 100, 100, 119]⟩, .int .u64 a, .int .u64 b] w fun e w' => e = .returned (.int .u64 (signZ (IntKind.u64.wrap ((signZ (a) 32) + (signZ (b) 32))) 32)) ∧ Below w.heap.size w w' :=
  ofl_any 19 (by decide) (by decide) a b w (reckZ 19 a b) (fun w => reckon_19 a b w ha hb)
theorem of_subw (a b : Int) (w : World) (ha : Inw a) (hb : Inw b) : Calls Tryd.prog 18 #[.string ⟨#[115, 117, 98, 119]⟩, .int .u64 a, .int .u64 b] w fun e w' => e = .returned (.int .u64 (signZ (IntKind.u64.wrap ((signZ (a) 32) - (signZ (b) 32))) 32)) ∧ Below w.heap.size w w' :=
  ofl_any 20 (by decide) (by decide) a b w (reckZ 20 a b) (fun w => reckon_20 a b w ha hb)
theorem of_sllw (a b : Int) (w : World) (ha : Inw a) (hb : Inw b) : Calls Tryd.prog 18 #[.string ⟨#[115, 108, 108, 119]⟩, .int .u64 a, .int .u64 b] w fun e w' => e = .returned (.int .u64 (signZ (IntKind.u64.wrap ((signZ (a) 32) * 2 ^ ((signZ (b) 32) % 32).toNat)) 32)) ∧ Below w.heap.size w w' :=
  ofl_any 21 (by decide) (by decide) a b w (reckZ 21 a b) (fun w => reckon_21 a b w ha hb)
theorem of_srlw (a b : Int) (w : World) (ha : Inw a) (hb : Inw b) : Calls Tryd.prog 18 #[.string ⟨#[115, 114, 108, 119]⟩, .int .u64 a, .int .u64 b] w fun e w' => e = .returned (.int .u64 (signZ ((bitsZ (a) 0 32) / 2 ^ ((bitsZ (b) 0 32) % 32).toNat) 32)) ∧ Below w.heap.size w w' :=
  ofl_any 22 (by decide) (by decide) a b w (reckZ 22 a b) (fun w => reckon_22 a b w ha hb)
theorem of_sraw (a b : Int) (w : World) (ha : Inw a) (hb : Inw b) : Calls Tryd.prog 18 #[.string ⟨#[115, 114, 97, 119]⟩, .int .u64 a, .int .u64 b] w fun e w' => e = .returned (.int .u64 (signZ (IntKind.u64.wrap (wrap64 ((signZ (a) 32)) / 2 ^ ((signZ (b) 32) % 32).toNat)) 32)) ∧ Below w.heap.size w w' :=
  ofl_any 23 (by decide) (by decide) a b w (reckZ 23 a b) (fun w => reckon_23 a b w ha hb)
theorem of_mulw (a b : Int) (w : World) (ha : Inw a) (hb : Inw b) : Calls Tryd.prog 18 #[.string ⟨#[109, 117, 108, 119]⟩, .int .u64 a, .int .u64 b] w fun e w' => e = .returned (.int .u64 (signZ (IntKind.u64.wrap ((signZ (a) 32) * (signZ (b) 32))) 32)) ∧ Below w.heap.size w w' :=
  ofl_any 24 (by decide) (by decide) a b w (reckZ 24 a b) (fun w => reckon_24 a b w ha hb)
theorem of_divw (a b : Int) (w : World) (ha : Inw a) (hb : Inw b) : Calls Tryd.prog 18 #[.string ⟨#[100, 105, 118, 119]⟩, .int .u64 a, .int .u64 b] w fun e w' => e = .returned (.int .u64 (signZ (quotZ ((signZ (a) 32)) ((signZ (b) 32)) true) 32)) ∧ Below w.heap.size w w' :=
  ofl_any 25 (by decide) (by decide) a b w (reckZ 25 a b) (fun w => reckon_25 a b w ha hb)
theorem of_divuw (a b : Int) (w : World) (ha : Inw a) (hb : Inw b) : Calls Tryd.prog 18 #[.string ⟨#[100, 105, 118, 117, 119]⟩, .int .u64 a, .int .u64 b] w fun e w' => e = .returned (.int .u64 (signZ (quotZ ((bitsZ (a) 0 32)) ((bitsZ (b) 0 32)) false) 32)) ∧ Below w.heap.size w w' :=
  ofl_any 26 (by decide) (by decide) a b w (reckZ 26 a b) (fun w => reckon_26 a b w ha hb)
theorem of_remw (a b : Int) (w : World) (ha : Inw a) (hb : Inw b) : Calls Tryd.prog 18 #[.string ⟨#[114, 101, 109, 119]⟩, .int .u64 a, .int .u64 b] w fun e w' => e = .returned (.int .u64 (signZ (restZ ((signZ (a) 32)) ((signZ (b) 32)) true) 32)) ∧ Below w.heap.size w w' :=
  ofl_any 27 (by decide) (by decide) a b w (reckZ 27 a b) (fun w => reckon_27 a b w ha hb)
theorem of_remuw (a b : Int) (w : World) (ha : Inw a) (hb : Inw b) : Calls Tryd.prog 18 #[.string ⟨#[114, 101, 109, 117, 119]⟩, .int .u64 a, .int .u64 b] w fun e w' => e = .returned (.int .u64 (signZ (restZ ((bitsZ (a) 0 32)) ((bitsZ (b) 0 32)) false) 32)) ∧ Below w.heap.size w w' :=
  ofl_any 28 (by decide) (by decide) a b w (reckZ 28 a b) (fun w => reckon_28 a b w ha hb)
theorem of_addi (a b : Int) (w : World) (ha : Inw a) (hb : Inw b) : Calls Tryd.prog 18 #[.string ⟨#[97, 100, 100, 105]⟩, .int .u64 a, .int .u64 b] w fun e w' => e = .returned (.int .u64 (IntKind.u64.wrap (a + b))) ∧ Below w.heap.size w w' :=
  ofl_any 29 (by decide) (by decide) a b w (reckZ 29 a b) (fun w => reckon_29 a b w ha hb)
theorem of_slti (a b : Int) (w : World) (ha : Inw a) (hb : Inw b) : Calls Tryd.prog 18 #[.string ⟨#[115, 108, 116, 105]⟩, .int .u64 a, .int .u64 b] w fun e w' => e = .returned (.int .u64 (numZ (decide (wrap64 (a) < wrap64 (b))))) ∧ Below w.heap.size w w' :=
  ofl_any 30 (by decide) (by decide) a b w (reckZ 30 a b) (fun w => reckon_30 a b w ha hb)
theorem of_sltiu (a b : Int) (w : World) (ha : Inw a) (hb : Inw b) : Calls Tryd.prog 18 #[.string ⟨#[115, 108, 116, 105, 117]⟩, .int .u64 a, .int .u64 b] w fun e w' => e = .returned (.int .u64 (numZ (decide (a < b)))) ∧ Below w.heap.size w w' :=
  ofl_any 31 (by decide) (by decide) a b w (reckZ 31 a b) (fun w => reckon_31 a b w ha hb)
theorem of_xori (a b : Int) (w : World) (ha : Inw a) (hb : Inw b) : Calls Tryd.prog 18 #[.string ⟨#[120, 111, 114, 105]⟩, .int .u64 a, .int .u64 b] w fun e w' => e = .returned (.int .u64 (bits .xor .u64 (a) (b))) ∧ Below w.heap.size w w' :=
  ofl_any 32 (by decide) (by decide) a b w (reckZ 32 a b) (fun w => reckon_32 a b w ha hb)
theorem of_ori (a b : Int) (w : World) (ha : Inw a) (hb : Inw b) : Calls Tryd.prog 18 #[.string ⟨#[111, 114, 105]⟩, .int .u64 a, .int .u64 b] w fun e w' => e = .returned (.int .u64 (bits .or .u64 (a) (b))) ∧ Below w.heap.size w w' :=
  ofl_any 33 (by decide) (by decide) a b w (reckZ 33 a b) (fun w => reckon_33 a b w ha hb)
theorem of_andi (a b : Int) (w : World) (ha : Inw a) (hb : Inw b) : Calls Tryd.prog 18 #[.string ⟨#[97, 110, 100, 105]⟩, .int .u64 a, .int .u64 b] w fun e w' => e = .returned (.int .u64 (bits .and .u64 (a) (b))) ∧ Below w.heap.size w w' :=
  ofl_any 34 (by decide) (by decide) a b w (reckZ 34 a b) (fun w => reckon_34 a b w ha hb)
theorem of_slli (a b : Int) (w : World) (ha : Inw a) (hb : Inw b) : Calls Tryd.prog 18 #[.string ⟨#[115, 108, 108, 105]⟩, .int .u64 a, .int .u64 b] w fun e w' => e = .returned (.int .u64 (IntKind.u64.wrap (a * 2 ^ (b % 64).toNat))) ∧ Below w.heap.size w w' :=
  ofl_any 35 (by decide) (by decide) a b w (reckZ 35 a b) (fun w => reckon_35 a b w ha hb)
theorem of_srli (a b : Int) (w : World) (ha : Inw a) (hb : Inw b) : Calls Tryd.prog 18 #[.string ⟨#[115, 114, 108, 105]⟩, .int .u64 a, .int .u64 b] w fun e w' => e = .returned (.int .u64 (a / 2 ^ (b % 64).toNat)) ∧ Below w.heap.size w w' :=
  ofl_any 36 (by decide) (by decide) a b w (reckZ 36 a b) (fun w => reckon_36 a b w ha hb)
theorem of_srai (a b : Int) (w : World) (ha : Inw a) (hb : Inw b) : Calls Tryd.prog 18 #[.string ⟨#[115, 114, 97, 105]⟩, .int .u64 a, .int .u64 b] w fun e w' => e = .returned (.int .u64 (IntKind.u64.wrap (wrap64 (a) / 2 ^ (b % 64).toNat))) ∧ Below w.heap.size w w' :=
  ofl_any 37 (by decide) (by decide) a b w (reckZ 37 a b) (fun w => reckon_37 a b w ha hb)
theorem of_addiw (a b : Int) (w : World) (ha : Inw a) (hb : Inw b) : Calls Tryd.prog 18 #[.string ⟨#[97, 100, 100, 105, 119]⟩, .int .u64 a, .int .u64 b] w fun e w' => e = .returned (.int .u64 (signZ (IntKind.u64.wrap ((signZ (a) 32) + (signZ (b) 32))) 32)) ∧ Below w.heap.size w w' :=
  ofl_any 38 (by decide) (by decide) a b w (reckZ 38 a b) (fun w => reckon_38 a b w ha hb)
theorem of_slliw (a b : Int) (w : World) (ha : Inw a) (hb : Inw b) : Calls Tryd.prog 18 #[.string ⟨#[115, 108, 108, 105, 119]⟩, .int .u64 a, .int .u64 b] w fun e w' => e = .returned (.int .u64 (signZ (IntKind.u64.wrap ((signZ (a) 32) * 2 ^ ((signZ (b) 32) % 32).toNat)) 32)) ∧ Below w.heap.size w w' :=
  ofl_any 39 (by decide) (by decide) a b w (reckZ 39 a b) (fun w => reckon_39 a b w ha hb)
theorem of_srliw (a b : Int) (w : World) (ha : Inw a) (hb : Inw b) : Calls Tryd.prog 18 #[.string ⟨#[115, 114, 108, 105, 119]⟩, .int .u64 a, .int .u64 b] w fun e w' => e = .returned (.int .u64 (signZ ((bitsZ (a) 0 32) / 2 ^ ((bitsZ (b) 0 32) % 32).toNat) 32)) ∧ Below w.heap.size w w' :=
  ofl_any 40 (by decide) (by decide) a b w (reckZ 40 a b) (fun w => reckon_40 a b w ha hb)
theorem of_sraiw (a b : Int) (w : World) (ha : Inw a) (hb : Inw b) : Calls Tryd.prog 18 #[.string ⟨#[115, 114, 97, 105, 119]⟩, .int .u64 a, .int .u64 b] w fun e w' => e = .returned (.int .u64 (signZ (IntKind.u64.wrap (wrap64 ((signZ (a) 32)) / 2 ^ ((signZ (b) 32) % 32).toNat)) 32)) ∧ Below w.heap.size w w' :=
  ofl_any 41 (by decide) (by decide) a b w (reckZ 41 a b) (fun w => reckon_41 a b w ha hb)
theorem find_beq (w : World) : Calls Tryd.prog 20 #[.string ⟨#[98, 101, 113]⟩] w fun e w' => e = .returned (.int .i64 55) ∧ Below w.heap.size w w' := find_k 55 (by decide) (by decide) w
theorem find_bne (w : World) : Calls Tryd.prog 20 #[.string ⟨#[98, 110, 101]⟩] w fun e w' => e = .returned (.int .i64 56) ∧ Below w.heap.size w w' := find_k 56 (by decide) (by decide) w
theorem find_blt (w : World) : Calls Tryd.prog 20 #[.string ⟨#[98, 108, 116]⟩] w fun e w' => e = .returned (.int .i64 57) ∧ Below w.heap.size w w' := find_k 57 (by decide) (by decide) w
theorem find_bge (w : World) : Calls Tryd.prog 20 #[.string ⟨#[98, 103, 101]⟩] w fun e w' => e = .returned (.int .i64 58) ∧ Below w.heap.size w w' := find_k 58 (by decide) (by decide) w
theorem find_bltu (w : World) : Calls Tryd.prog 20 #[.string ⟨#[98, 108, 116, 117]⟩] w fun e w' => e = .returned (.int .i64 59) ∧ Below w.heap.size w w' := find_k 59 (by decide) (by decide) w
theorem find_bgeu (w : World) : Calls Tryd.prog 20 #[.string ⟨#[98, 103, 101, 117]⟩] w fun e w' => e = .returned (.int .i64 60) ∧ Below w.heap.size w w' := find_k 60 (by decide) (by decide) w
theorem holds_beq (a b : Int) (w : World) (hn : NT w) (ha : Inw a) (hb : Inw b) : Calls Tryd.prog 14 #[.int .i64 55, .int .u64 a, .int .u64 b] w fun e w' => e = .returned (.tuple #[.bool ((a == b)), .bool true]) ∧ w = w' := holds_any 55 a b w hn ha.1 ha.2 hb.1 hb.2
theorem holds_bne (a b : Int) (w : World) (hn : NT w) (ha : Inw a) (hb : Inw b) : Calls Tryd.prog 14 #[.int .i64 56, .int .u64 a, .int .u64 b] w fun e w' => e = .returned (.tuple #[.bool ((a != b)), .bool true]) ∧ w = w' := holds_any 56 a b w hn ha.1 ha.2 hb.1 hb.2
theorem holds_blt (a b : Int) (w : World) (hn : NT w) (ha : Inw a) (hb : Inw b) : Calls Tryd.prog 14 #[.int .i64 57, .int .u64 a, .int .u64 b] w fun e w' => e = .returned (.tuple #[.bool (decide (wrap64 a < wrap64 b)), .bool true]) ∧ w = w' := holds_any 57 a b w hn ha.1 ha.2 hb.1 hb.2
theorem holds_bge (a b : Int) (w : World) (hn : NT w) (ha : Inw a) (hb : Inw b) : Calls Tryd.prog 14 #[.int .i64 58, .int .u64 a, .int .u64 b] w fun e w' => e = .returned (.tuple #[.bool (decide (wrap64 b ≤ wrap64 a)), .bool true]) ∧ w = w' := holds_any 58 a b w hn ha.1 ha.2 hb.1 hb.2
theorem holds_bltu (a b : Int) (w : World) (hn : NT w) (ha : Inw a) (hb : Inw b) : Calls Tryd.prog 14 #[.int .i64 59, .int .u64 a, .int .u64 b] w fun e w' => e = .returned (.tuple #[.bool (decide (a < b)), .bool true]) ∧ w = w' := holds_any 59 a b w hn ha.1 ha.2 hb.1 hb.2
theorem holds_bgeu (a b : Int) (w : World) (hn : NT w) (ha : Inw a) (hb : Inw b) : Calls Tryd.prog 14 #[.int .i64 60, .int .u64 a, .int .u64 b] w fun e w' => e = .returned (.tuple #[.bool (decide (b ≤ a)), .bool true]) ∧ w = w' := holds_any 60 a b w hn ha.1 ha.2 hb.1 hb.2
theorem ex_add : IntKind.u64.wrap (18446744073709551615 + 1) = 0 := by decide +kernel
theorem ex_sub : IntKind.u64.wrap (0 - 1) = 18446744073709551615 := by decide +kernel
theorem ex_addw : signZ (IntKind.u64.wrap ((signZ (2147483647) 32) + (signZ (1) 32))) 32 = 18446744071562067968 := by decide +kernel
theorem ex_sraw : signZ (IntKind.u64.wrap (wrap64 ((signZ (2147483648) 32)) / 2 ^ ((signZ (4) 32) % 32).toNat)) 32 = 18446744073575333888 := by decide +kernel
theorem ex_divw : signZ (quotZ ((signZ (7) 32)) ((signZ (0) 32)) true) 32 = 18446744073709551615 := by decide +kernel
theorem ex_remuw : signZ (restZ ((bitsZ (2147483648) 0 32)) ((bitsZ (0) 0 32)) false) 32 = 18446744071562067968 := by decide +kernel
end Go.Proofs.YtoijhhacgafblabDoor

/- IsaR IsaS IsaU OpsL OpsH -/
import Derived.Test.YtegoddghfjfibaaGreatDoorZ18
import Derived.LoopTactic
import Derived.Deep.MidRow
import Derived.Deep.Cut
import Derived.Test.YtegoddghfjfibaaGreatDoorZ09
import Derived.Test.YtegoddghfjfibaaGreatDoorRows
import Derived.WalkKit
import Derived.ProofKit
import Derived.OpenShut
import Derived.Lib.Hide
namespace Go.Proofs.YtegoddghfjfibaaGreatDoor.Is
set_option linter.unusedVariables false
set_option maxRecDepth 100000
set_option linter.unusedSimpArgs false
open Go.Joins Go.ChangeShapes Go.WideShapes Go.ChangeAt Go.RowKit

theorem and1_i64 (x : Int) : bits .and .i64 x 1 = x % 2 := by
  show IntKind.i64.wrap ((BitVec.ofInt 64 x &&& BitVec.ofInt 64 ((1 : Nat) : Int)).toNat : Int) = x % 2
  rw [BitVec.toNat_and, ofInt_u64 1 (by decide), nat_mask1, BitVec.toNat_ofInt]
  rw [IntKind.wrap_i64, show ((2 ^ 64 : Nat) : Int) = 18446744073709551616 from rfl]
  omega
theorem bit_any (n : Int) (i : Nat) (w : World) (hi : i < 64) :
    Calls Tryz.prog 128 #[.int .i64 n, .int .i64 (i : Int)] w fun e w' => e = .returned (.int .i64 (n / 2 ^ i % 2)) ∧ w = w' := by
  go_enter Tryz.func128, Tryz.ntmps128
  go_wp2_with fail
  go_ret
  exact ⟨ret_int (and1_i64 _), rfl⟩
def rgZ (k : Int) : Int := if (k == 1) = true then 7 else if (k == 2) = true then 3 else if (k == 3) = true then 3 else if (k == 8) = true then 3 else if (k == 4) = true then 6 else if (k == 5) = true then 6 else if (k == 10) = true then 6 else if (k == 6) = true then 1 else if (k == 7) = true then 1 else 0
theorem registers_any (k : Int) (w : World) :
    Calls Tryz.prog 73 #[.int .i64 k] w fun e w' => e = .returned (.int .i64 (rgZ k)) ∧ w = w' := by
  go_enter Tryz.func73, Tryz.ntmps73
  go_wp2_with fail
  all_goals exact bodyPost_ret (v := .int .i64 (rgZ k)) (by simp [results, Tryz.results73, go_sem, rgZ, *]) rfl ⟨rfl, rfl⟩
/-- a word of 32 bits, the lowest one first -/
def bitsL (N : Nat) : List Value := (List.range 32).map fun i => .int .i64 ((N / 2 ^ i % 2 : Nat) : Int)
def wordV (N : Nat) : Value := .agg (bitsL N).toArray
theorem bitsL_at (N j : Nat) (h : j < 32) : (bitsL N)[j]? = some (.int .i64 ((N / 2 ^ j % 2 : Nat) : Int)) := by
  unfold bitsL; rw [List.getElem?_map, List.getElem?_range h]; rfl
theorem bitsL_len (N : Nat) : (bitsL N).length = 32 := by simp [bitsL]
/-- a word stands in a block of its own, and may be written -/
def Box32 (W : World) (P : Nat) (N : Nat) : Prop := (∀ j, W.frozen? ⟨P, j, none⟩ = false) ∧ ∀ j : Nat, j < 32 → W.cell? ⟨P, j, none⟩ = some (.int .i64 ((N / 2 ^ j % 2 : Nat) : Int))
theorem Box32.new (W : World) (N : Nat) (t : TypeId) : Box32 (W.alloc (.cells (bitsL N).toArray t)) W.heap.size N := by
  refine ⟨boxedF (Below.refl _ _), fun j hj => ?_⟩
  rw [boxed (Below.refl _ _) j, List.getElem?_toArray, bitsL_at N j hj]
theorem Box32.lt {W : World} {P N : Nat} (h : Box32 W P N) : P < W.heap.size := heap_lt_of_cell (h.2 0 (by decide))
theorem Box32.on {W W' : World} {P N : Nat} (h : Box32 W P N) (hb : Below W.heap.size W W') : Box32 W' P N :=
  ⟨fun j => (frozen_below hb h.lt j).trans (h.1 j), fun j hj => (hb.cell (p := ⟨P, j, none⟩) h.lt).trans (h.2 j hj)⟩
theorem Box32.range {W : World} {P N : Nat} (h : Box32 W P N) : W.rangeAt P 0 (bitsL N) := by
  intro j v hj
  by_cases hl : j < 32
  · rw [bitsL_at N j hl] at hj
    rw [Nat.zero_add, h.2 j hl]
    exact hj
  · rw [List.getElem?_eq_none (by rw [bitsL_len]; omega)] at hj
    exact absurd hj (by simp)
theorem Box32.set {W : World} {P N M j : Nat} (h : Box32 W P N) (hj : j < 32) (b : Nat) (hb : M / 2 ^ j % 2 = b) (hs : ∀ i, i < 32 → i ≠ j → M / 2 ^ i % 2 = N / 2 ^ i % 2) : Box32 (W.setCell ⟨P, j, none⟩ (.int .i64 (b : Int))) P M := by
  refine ⟨fun i => (frozen_set _ _ _ _ _).trans (h.1 i), fun i hi => ?_⟩
  by_cases e : i = j
  · subst e
    rw [World.cell?_setCell_same (u := .int .i64 ((N / 2 ^ i % 2 : Nat) : Int)) _ _ _ (h.2 i hi), hb]
  · rw [World.cell?_setCell_other _ _ _ _ (by simp [e]), h.2 i hi, hs i hi e]
theorem Box32.other {W : World} {P N : Nat} (h : Box32 W P N) (Q j : Nat) (v : Value) (hne : P ≠ Q) : Box32 (W.setCell ⟨Q, j, none⟩ v) P N :=
  ⟨fun i => (frozen_set _ _ _ _ _).trans (h.1 i), fun i hi => (World.cell?_setCell_other _ _ _ _ (by simp [hne])).trans (h.2 i hi)⟩
/-- bit j of a number into which some bits were laid -/
theorem lay_bit (N to_ u k : Nat) (hN : N / 2 ^ to_ % 2 ^ (k + 1) = 0) (hu : u < 2 ^ (k + 1)) :
    (N + u * 2 ^ to_) / 2 ^ (to_ + k) % 2 = u / 2 ^ k % 2 ∧ ∀ i, i ≠ to_ + k → (N + u * 2 ^ to_) / 2 ^ i % 2 = (N + u % 2 ^ k * 2 ^ to_) / 2 ^ i % 2 := by
  have hu' : u % 2 ^ k < 2 ^ (k + 1) := Nat.lt_of_lt_of_le (Nat.mod_lt _ (Nat.pow_pos (by decide))) (Nat.pow_le_pow_right (by decide) (by omega))
  rw [← or_add N u to_ (k + 1) hu hN, ← or_add N (u % 2 ^ k) to_ (k + 1) hu' hN]
  have hb : ∀ x i, x / 2 ^ i % 2 = if x.testBit i then 1 else 0 := bit_of
  have hNb : ∀ i, to_ ≤ i → i < to_ + (k + 1) → N.testBit i = false := by
    intro i h1 h2
    have := congrArg (fun x => x.testBit (i - to_)) hN
    simp only [Nat.testBit_mod_two_pow, Nat.testBit_div_two_pow, Nat.zero_testBit, Nat.sub_add_cancel h1, decide_eq_true (show i - to_ < k + 1 by omega), Bool.true_and] at this
    exact this
  constructor
  · rw [hb, hb, Nat.testBit_or, Nat.testBit_mul_two_pow, hNb _ (by omega) (by omega), decide_eq_true (by omega), Bool.false_or, Bool.true_and, show to_ + k - to_ = k by omega]
  · intro i hi
    rw [hb, hb, Nat.testBit_or, Nat.testBit_or, Nat.testBit_mul_two_pow, Nat.testBit_mul_two_pow, Nat.testBit_mod_two_pow]
    by_cases h : to_ ≤ i
    · by_cases h2 : i - to_ < k
      · rw [decide_eq_true h2]; simp
      · have : u.testBit (i - to_) = false := Nat.testBit_lt_two_pow (Nat.lt_of_lt_of_le hu (Nat.pow_le_pow_right (by decide) (by omega)))
        rw [this]; simp
    · rw [decide_eq_false h]; simp

theorem results_cell_mid {P : Program} {fn : Func} {p : Tmp} {ty : TypeId} (h : fn.results = #[.cell p ty]) (tmps : Array Value) (w : World) (g : Nat) (cs : List Value) (d : TypeDesc)
    (hp : tmps.getD p undef = .pointer (some ⟨g, 0, none⟩)) (hc : w.rangeAt g 0 cs) (hu : P.underlying ty = some d) (hd : d.isRow = true) (hi : (P.info? ty).map (·.size) = some cs.length) :
    (results fn tmps).run P w = .ok (.agg cs.toArray) w := by
  have hp' : tmps[p]?.getD undef = .pointer (some ⟨g, 0, none⟩) := by simpa using hp
  simp [results, h, hp', asAddr, run_loadVar_mid w g 0 ty cs d hc hu hd hi]
theorem below_setCells {B : Nat} {w : World} (b : Nat) (hb : B ≤ b) : ∀ (vs : List Value) (o : Nat) (w' : World), Below B w w' → Below B w (w'.setCells b o vs)
  | [], _, _, h => h
  | v :: r, o, w', h => below_setCells b hb r (o + 1) _ (Below.setCell (p := ⟨b, o, none⟩) h hb v)
theorem Box32.there {W : World} {P N : Nat} (h : Box32 W P N) : W.there P 0 32 := fun j hj => ⟨by rw [Nat.zero_add, h.2 j hj]; rfl, h.1 _⟩
theorem bitsL_one (N : Nat) : ∀ v ∈ bitsL N, v.oneCell' = true := by
  intro v hv
  unfold bitsL at hv
  obtain ⟨i, -, rfl⟩ := List.mem_map.mp hv
  rfl
theorem wordSize (N : Nat) : (Tryz.prog.info? 121).map (·.size) = some (bitsL N).length := by rw [bitsL_len]; kernel_rfl
theorem bit_of_int (x : Int) (m k : Nat) (h : k < m) : x / 2 ^ k % 2 = (((x % 2 ^ m).toNat / 2 ^ k % 2 : Nat) : Int) := by
  have hp : (0 : Int) < 2 ^ m := Int.pow_pos (by decide)
  have h0 : 0 ≤ x % 2 ^ m := Int.emod_nonneg _ (by omega)
  obtain ⟨u, hu⟩ := Int.eq_ofNat_of_zero_le h0
  rw [hu, Int.toNat_natCast]
  have e := Int.emod_add_mul_ediv x (2 ^ m)
  rw [hu] at e
  have hk : (2 : Int) ^ m = 2 ^ k * (2 * 2 ^ (m - k - 1)) := by rw [← Int.pow_succ', ← Int.pow_add]; congr 1; omega
  have hx : x = (u : Int) + 2 ^ k * (2 * 2 ^ (m - k - 1) * (x / 2 ^ m)) := by rw [← Int.mul_assoc, ← hk]; exact e.symm
  have hk0 : (2 : Int) ^ k ≠ 0 := by have : (0 : Int) < 2 ^ k := Int.pow_pos (by decide); omega
  generalize x / 2 ^ m = q at hx
  rw [hx, Int.add_mul_ediv_left _ _ hk0, Int.mul_assoc, pow_cast, ← Int.natCast_ediv]
  omega
theorem lay_any (N f m t : Nat) (n : Int) (w : World) (hN : N / 2 ^ t % 2 ^ m = 0) (hf : f + m ≤ 64) (ht : t + m ≤ 32) :
    Calls Tryz.prog 74 #[wordV N, .int .i64 n, .int .i64 (f : Int), .int .i64 (m : Int), .int .i64 (t : Int)] w fun e w' => e = .returned (wordV (N + (n / 2 ^ f % 2 ^ m).toNat * 2 ^ t)) ∧ Below w.heap.size w w' := by
  obtain ⟨u, hu⟩ : ∃ u, (n / 2 ^ f % 2 ^ m).toNat = u := ⟨_, rfl⟩
  have hul : u < 2 ^ m := by
    have hp : (0 : Int) < 2 ^ m := Int.pow_pos (by decide)
    have h1 := Int.emod_lt_of_pos (n / 2 ^ f) hp
    have h0 : 0 ≤ n / 2 ^ f % 2 ^ m := Int.emod_nonneg _ (by omega)
    have h2 : (u : Int) < ((2 ^ m : Nat) : Int) := by rw [← hu, Int.toNat_of_nonneg h0, ← pow_cast]; exact h1
    omega
  have hbit : ∀ k, k < m → n / 2 ^ (f + k) % 2 = ((u / 2 ^ k % 2 : Nat) : Int) := by
    intro k hk
    rw [Int.pow_add, ← Int.ediv_ediv_of_nonneg (Int.le_of_lt (Int.pow_pos (by decide))), bit_of_int _ m k hk, hu]
  have hlay : ∀ k, k < m → (N + u % 2 ^ (k + 1) * 2 ^ t) / 2 ^ (t + k) % 2 = u / 2 ^ k % 2 ∧ ∀ i, i ≠ t + k → (N + u % 2 ^ (k + 1) * 2 ^ t) / 2 ^ i % 2 = (N + u % 2 ^ k * 2 ^ t) / 2 ^ i % 2 := by
    intro k hk
    have hN' : N / 2 ^ t % 2 ^ (k + 1) = 0 := by
      have e : 2 ^ m = 2 ^ (k + 1) * 2 ^ (m - (k + 1)) := by rw [← Nat.pow_add]; congr 1; omega
      rw [e] at hN
      have := Nat.mod_mul_right_mod (N / 2 ^ t) (2 ^ (k + 1)) (2 ^ (m - (k + 1)))
      rw [hN] at this
      simpa using this.symm
    have := lay_bit N t (u % 2 ^ (k + 1)) k hN' (Nat.mod_lt _ (Nat.pow_pos (by decide)))
    have e1 : u % 2 ^ (k + 1) / 2 ^ k % 2 = u / 2 ^ k % 2 := by
      rw [bit_of, bit_of, Nat.testBit_mod_two_pow, decide_eq_true (by omega), Bool.true_and]
    have e2 : u % 2 ^ (k + 1) % 2 ^ k = u % 2 ^ k := Nat.mod_mod_of_dvd _ (Nat.pow_dvd_pow 2 (by omega))
    rw [e1, e2] at this
    exact this
  rw [hu]
  have hlast : N + u % 2 ^ m * 2 ^ t = N + u * 2 ^ t := by rw [Nat.mod_eq_of_lt hul]
  have HB := Lib.hid hbit
  have HL := Lib.hid hlay
  have HE := Lib.hid hlast
  clear hu hbit hlay hlast hN hul
  unfold wordV
  obtain ⟨A, hA⟩ : ∃ A, (bitsL N).toArray = A := ⟨_, rfl⟩
  obtain ⟨R, hR⟩ : ∃ R, bitsL (N + u * 2 ^ t) = R := ⟨_, rfl⟩
  rw [hA, hR]
  have B0 := Box32.new w N 121
  rw [hA] at B0
  have X0 := Lib.hid B0
  have HA := Lib.hid hA
  have HR := Lib.hid hR
  clear hA hR B0
  go_enter Tryz.func74, Tryz.ntmps74
  go_wp2_with fail
  go_loopw [11] (fun i wr => ∃ k : Nat, k ≤ m ∧ i = .int .i64 k ∧ Hid (Box32 wr w.heap.size (N + u % 2 ^ k * 2 ^ t)) ∧ Hid (Box32 wr (w.heap.size + 1) 0) ∧ Hid (Below w.heap.size w wr)) (fun i _ => m - (intOf i).toNat)
  case atStart =>
    refine ⟨0, by omega, rfl, Lib.hid ?_, Lib.hid ?_, Lib.hid (bAlloc (bAlloc (Below.refl _ _) _) _)⟩
    · rw [Nat.pow_zero, Nat.mod_one, Nat.zero_mul, Nat.add_zero]
      exact X0.out.on (bAlloc (Below.refl _ _) _)
    · have := Box32.new (w.alloc (.cells A 121)) 0 121
      rw [size_alloc] at this
      exact this
  case round =>
    obtain ⟨k, hk, rfl, XW, XR, XB⟩ := hrel
    by_cases h : k < m
    · have hd : decide ((k : Int) < (m : Int)) = true := decide_eq_true (by omega)
      have e1 : ((t : Int) + (k : Int)).toNat = t + k := by omega
      have hc := XW.out.2 (t + k) (by omega)
      have hf := XW.out.1 (t + k)
      have e2 : (f : Int) + (k : Int) = ((f + k : Nat) : Int) := by omega
      have HX := Lib.hid e2
      clear e2
      go_wp2_with fail
      rw [HX.out]
      refine (bit_any n (f + k) _ (by omega)).mono ?_; rintro e w' ⟨rfl, rfl⟩
      rw [HB.out k h]
      go_wp2_with fail
      go_round
      case rel =>
        refine ⟨k + 1, by omega, by go_num, Lib.hid ?_, Lib.hid (XR.out.other _ _ _ (by omega)), Lib.hid (Below.setCell XB.out (Nat.le_refl _) _)⟩
        exact XW.out.set (by omega) _ (HL.out k h).1 (fun i _ hi => (HL.out k h).2 i hi)
      case measure => simp [intOf]; omega
    · have hd : decide ((k : Int) < (m : Int)) = false := decide_eq_false (by omega)
      obtain rfl : k = m := by omega
      have XE := XW.out
      rw [HE.out] at XE
      have hrg := XE.range
      have hsz := wordSize (N + u * 2 ^ t)
      have hone := bitsL_one (N + u * 2 ^ t)
      have hlen := bitsL_len (N + u * 2 ^ t)
      rw [HR.out] at hrg hsz hone hlen
      have HG := Lib.hid hrg
      have HS := Lib.hid hsz
      have HO := Lib.hid hone
      have HN := Lib.hid hlen
      clear XE hrg hsz hone hlen
      go_upto_region 5 with fail
      apply wp_region_lit
      refine wpList_load_mid rfl _ _ rfl w.heap.size 0 rfl R (.array 32 3) HG.out Tryz.underlying121 rfl HS.out ?_
      refine wpList_store_mid rfl _ _ _ rfl (w.heap.size + 1) 0 R.toArray rfl rfl ?_ ?_ (all_oneCell_toArray HO.out) ?_
      · have h : R.toArray.size = 32 := by rw [List.size_toArray]; exact HN.out
        rw [h]; exact XR.out.there
      · have h : R.toArray.size = R.length := by rw [List.size_toArray]
        rw [h]; exact HS.out
      go_wp2_with fail
      refine bodyPost_ret (v := .agg R.toArray) ?_ rfl ⟨rfl, ?_⟩
      · refine results_cell_mid Tryz.results74 _ _ (w.heap.size + 1) R (.array 32 3) rfl ?_ Tryz.underlying121 rfl HS.out
        exact World.rangeAt_setCells_same _ _ _ _ (by rw [HN.out]; exact XR.out.there)
      · exact below_setCells _ (by omega) _ _ _ XB.out
end Go.Proofs.YtegoddghfjfibaaGreatDoor.Is

namespace Go.Proofs.YtegoddghfjfibaaGreatDoor.Is
set_option linter.unusedVariables false
set_option maxRecDepth 100000
set_option linter.unusedSimpArgs false
open Go.Joins Go.ChangeShapes Go.WideShapes Go.ChangeAt Go.RowKit

theorem or_bit32 (y k : Nat) (hk : k < 32) : bits .or .u32 ((y % 2 ^ k : Nat) : Int) (((y / 2 ^ k % 2 * 2 ^ k : Nat) : Int)) = ((y % 2 ^ (k + 1) : Nat) : Int) := by
  have h1 : y % 2 ^ k < 2 ^ k := Nat.mod_lt _ (Nat.pow_pos (by decide))
  have h2 : 2 ^ k ≤ 2147483648 := Nat.pow_le_pow_right (by decide : 0 < 2) (by omega : k ≤ 31)
  have h3 : y / 2 ^ k % 2 * 2 ^ k ≤ 1 * 2 ^ k := Nat.mul_le_mul_right _ (by omega)
  rw [u32or _ _ (by omega) (by omega), Nat.or_comm, nat_join k _ _ (by simp) h1, ← mod_step y k]
  congr 1
  rw [Nat.mul_comm]; omega
theorem wnumber_any (N : Nat) (w : World) (hN : N < 4294967296) :
    Calls Tryz.prog 76 #[wordV N] w fun e w' => e = .returned (.int .u32 (N : Int)) ∧ Below w.heap.size w w' := by
  have hend : N % 2 ^ 32 = N := Nat.mod_eq_of_lt hN
  have HEND := Lib.hid hend
  clear hend hN
  unfold wordV
  obtain ⟨A, hA⟩ : ∃ A, (bitsL N).toArray = A := ⟨_, rfl⟩
  rw [hA]
  have B0 := Box32.new w N 121
  rw [hA] at B0
  have X0 := Lib.hid B0
  clear hA B0
  go_enter Tryz.func76, Tryz.ntmps76
  go_wp2_with fail
  go_loop [3, 4] (fun o i => ∃ k : Nat, k ≤ 32 ∧ i = .int .i64 k ∧ o = .int .u32 ((N % 2 ^ k : Nat) : Int)) (fun _ i => 32 - (intOf i).toNat)
  case atStart => exact ⟨0, by omega, rfl, by simp [Nat.mod_one]⟩
  case round =>
    obtain ⟨k, hk, rfl, rfl⟩ := hrel
    by_cases h : k < 32
    · have hc := X0.out.2 k h
      have hb : N / 2 ^ k % 2 < 2 := Nat.mod_lt _ (by decide)
      have HO := Lib.hid (or_bit32 N k h)
      have h2 : 2 ^ k ≤ 2147483648 := Nat.pow_le_pow_right (by decide : 0 < 2) (by omega : k ≤ 31)
      generalize N / 2 ^ k % 2 = b at *
      have hm : ((b : Int) * 2 ^ k) % 4294967296 = ((b * 2 ^ k : Nat) : Int) := by
        have : b * 2 ^ k ≤ 1 * 2 ^ k := Nat.mul_le_mul_right _ (by omega)
        rw [pow_cast, ← Int.natCast_mul]
        omega
      have HM := Lib.hid hm
      clear hm h2
      go_wp2_with fail
      go_round
      case rel =>
        refine ⟨k + 1, by omega, by go_num, ?_⟩
        refine congrArg (Value.int IntKind.u32) ?_
        rw [HM.out, ← HO.out]
        congr 1
      case measure => simp [intOf]; omega
    · obtain rfl : k = 32 := by omega
      rw [HEND.out]
      go_wp2_with fail
      go_ret
      exact ⟨rfl, bAlloc (Below.refl _ _) _⟩
end Go.Proofs.YtegoddghfjfibaaGreatDoor.Is

namespace Go.Proofs.YtegoddghfjfibaaGreatDoor.Is
set_option linter.unusedVariables false
set_option maxRecDepth 100000
set_option linter.unusedSimpArgs false
open Go.Joins Go.ChangeShapes Go.WideShapes Go.ChangeAt Go.RowKit

/-- an operation as a value -/
def operV (s : List UInt8) (k c f3 f7 sh : Int) : Value := .agg #[.string ⟨s.toArray⟩, .int .i64 k, .int .i64 c, .int .i64 f3, .int .i64 f7, .int .i64 sh]
def May (s : List UInt8) (c f3 f7 n sh : Int) (k : Int) : Prop := ∀ w : World, Calls Tryz.prog 127 #[operV s k c f3 f7 sh, .int .i64 n] w fun e w' => e = .returned (.bool (immB k sh n)) ∧ Below w.heap.size w w'
theorem may2_5 (s : List UInt8) (c f3 f7 n : Int) : May s c f3 f7 n 5 2 := by
  intro w
  unfold operV
  go_enter Tryz.func127, Tryz.ntmps127
  go_wp2_with fail
  all_goals (refine bodyPost_ret (v := .bool (immB 2 5 n)) ?_ rfl ⟨rfl, bAlloc (Below.refl _ _) _⟩)
  all_goals first
    | (simp [results, Tryz.results127, go_sem, immB, *]; done)
    | (simp [results, Tryz.results127, go_sem, immB, *]; omega)
    | (simp [results, Tryz.results127, go_sem, immB, *]; rw [Bool.eq_iff_iff]; simp; omega)
theorem may2_6 (s : List UInt8) (c f3 f7 n : Int) : May s c f3 f7 n 6 2 := by
  intro w
  unfold operV
  go_enter Tryz.func127, Tryz.ntmps127
  go_wp2_with fail
  all_goals (refine bodyPost_ret (v := .bool (immB 2 6 n)) ?_ rfl ⟨rfl, bAlloc (Below.refl _ _) _⟩)
  all_goals first
    | (simp [results, Tryz.results127, go_sem, immB, *]; done)
    | (simp [results, Tryz.results127, go_sem, immB, *]; omega)
    | (simp [results, Tryz.results127, go_sem, immB, *]; rw [Bool.eq_iff_iff]; simp; omega)
theorem may2_0 (s : List UInt8) (c f3 f7 n : Int) : May s c f3 f7 n 0 2 := by
  intro w
  unfold operV
  go_enter Tryz.func127, Tryz.ntmps127
  go_wp2_with fail
  all_goals (refine bodyPost_ret (v := .bool (immB 2 0 n)) ?_ rfl ⟨rfl, bAlloc (Below.refl _ _) _⟩)
  all_goals first
    | (simp [results, Tryz.results127, go_sem, immB, *]; done)
    | (simp [results, Tryz.results127, go_sem, immB, *]; omega)
    | (simp [results, Tryz.results127, go_sem, immB, *]; rw [Bool.eq_iff_iff]; simp; omega)
theorem may3_0 (s : List UInt8) (c f3 f7 n : Int) : May s c f3 f7 n 0 3 := by
  intro w
  unfold operV
  go_enter Tryz.func127, Tryz.ntmps127
  go_wp2_with fail
  all_goals (refine bodyPost_ret (v := .bool (immB 3 0 n)) ?_ rfl ⟨rfl, bAlloc (Below.refl _ _) _⟩)
  all_goals first
    | (simp [results, Tryz.results127, go_sem, immB, *]; done)
    | (simp [results, Tryz.results127, go_sem, immB, *]; omega)
    | (simp [results, Tryz.results127, go_sem, immB, *]; rw [Bool.eq_iff_iff]; simp; omega)
theorem may4_0 (s : List UInt8) (c f3 f7 n : Int) : May s c f3 f7 n 0 4 := by
  intro w
  unfold operV
  go_enter Tryz.func127, Tryz.ntmps127
  go_wp2_with fail
  all_goals (refine bodyPost_ret (v := .bool (immB 4 0 n)) ?_ rfl ⟨rfl, bAlloc (Below.refl _ _) _⟩)
  all_goals first
    | (simp [results, Tryz.results127, go_sem, immB, *]; done)
    | (simp [results, Tryz.results127, go_sem, immB, *]; omega)
    | (simp [results, Tryz.results127, go_sem, immB, *]; rw [Bool.eq_iff_iff]; simp; omega)
theorem may5_0 (s : List UInt8) (c f3 f7 n : Int) : May s c f3 f7 n 0 5 := by
  intro w
  unfold operV
  have ht : (n.tmod 2 == 0) = (n % 2 == 0) := tmod_zero n 2
  by_cases hz : n % 2 = 0
  · rw [show (n % 2 == 0) = true by rw [beq_iff_eq]; exact hz] at ht
    go_enter Tryz.func127, Tryz.ntmps127
    go_wp2_with fail
    all_goals (refine bodyPost_ret (v := .bool (immB 5 0 n)) ?_ rfl ⟨rfl, bAlloc (Below.refl _ _) _⟩)
    all_goals first
      | (simp [results, Tryz.results127, go_sem, immB, *]; done)
      | (simp [results, Tryz.results127, go_sem, immB, *]; omega)
      | (simp [results, Tryz.results127, go_sem, immB, *]; rw [Bool.eq_iff_iff]; simp; omega)
  · rw [show (n % 2 == 0) = false from beq_false_of_ne hz] at ht
    go_enter Tryz.func127, Tryz.ntmps127
    go_wp2_with fail
    all_goals (refine bodyPost_ret (v := .bool (immB 5 0 n)) ?_ rfl ⟨rfl, bAlloc (Below.refl _ _) _⟩)
    all_goals first
      | (simp [results, Tryz.results127, go_sem, immB, *]; done)
      | (simp [results, Tryz.results127, go_sem, immB, *]; omega)
      | (simp [results, Tryz.results127, go_sem, immB, *]; rw [Bool.eq_iff_iff]; simp; omega)
theorem may6_0 (s : List UInt8) (c f3 f7 n : Int) : May s c f3 f7 n 0 6 := by
  intro w
  unfold operV
  have ht : (n.tmod 4096 == 0) = (n % 4096 == 0) := tmod_zero n 4096
  by_cases hz : n % 4096 = 0
  · rw [show (n % 4096 == 0) = true by rw [beq_iff_eq]; exact hz] at ht
    go_enter Tryz.func127, Tryz.ntmps127
    go_wp2_with fail
    all_goals (refine bodyPost_ret (v := .bool (immB 6 0 n)) ?_ rfl ⟨rfl, bAlloc (Below.refl _ _) _⟩)
    all_goals first
      | (simp [results, Tryz.results127, go_sem, immB, *]; done)
      | (simp [results, Tryz.results127, go_sem, immB, *]; omega)
      | (simp [results, Tryz.results127, go_sem, immB, *]; rw [Bool.eq_iff_iff]; simp; omega)
  · rw [show (n % 4096 == 0) = false from beq_false_of_ne hz] at ht
    go_enter Tryz.func127, Tryz.ntmps127
    go_wp2_with fail
    all_goals (refine bodyPost_ret (v := .bool (immB 6 0 n)) ?_ rfl ⟨rfl, bAlloc (Below.refl _ _) _⟩)
    all_goals first
      | (simp [results, Tryz.results127, go_sem, immB, *]; done)
      | (simp [results, Tryz.results127, go_sem, immB, *]; omega)
      | (simp [results, Tryz.results127, go_sem, immB, *]; rw [Bool.eq_iff_iff]; simp; omega)
theorem may7_0 (s : List UInt8) (c f3 f7 n : Int) : May s c f3 f7 n 0 7 := by
  intro w
  unfold operV
  have ht : (n.tmod 2 == 0) = (n % 2 == 0) := tmod_zero n 2
  by_cases hz : n % 2 = 0
  · rw [show (n % 2 == 0) = true by rw [beq_iff_eq]; exact hz] at ht
    go_enter Tryz.func127, Tryz.ntmps127
    go_wp2_with fail
    all_goals (refine bodyPost_ret (v := .bool (immB 7 0 n)) ?_ rfl ⟨rfl, bAlloc (Below.refl _ _) _⟩)
    all_goals first
      | (simp [results, Tryz.results127, go_sem, immB, *]; done)
      | (simp [results, Tryz.results127, go_sem, immB, *]; omega)
      | (simp [results, Tryz.results127, go_sem, immB, *]; rw [Bool.eq_iff_iff]; simp; omega)
  · rw [show (n % 2 == 0) = false from beq_false_of_ne hz] at ht
    go_enter Tryz.func127, Tryz.ntmps127
    go_wp2_with fail
    all_goals (refine bodyPost_ret (v := .bool (immB 7 0 n)) ?_ rfl ⟨rfl, bAlloc (Below.refl _ _) _⟩)
    all_goals first
      | (simp [results, Tryz.results127, go_sem, immB, *]; done)
      | (simp [results, Tryz.results127, go_sem, immB, *]; omega)
      | (simp [results, Tryz.results127, go_sem, immB, *]; rw [Bool.eq_iff_iff]; simp; omega)
theorem may_any (s : List UInt8) (k c f3 f7 sh n : Int) (w : World) (hs : sh = 0 ∨ (k = 2 ∧ (sh = 5 ∨ sh = 6))) :
    Calls Tryz.prog 127 #[operV s k c f3 f7 sh, .int .i64 n] w fun e w' => e = .returned (.bool (immB k sh n)) ∧ Below w.heap.size w w' := by
  rcases hs with rfl | ⟨rfl, rfl | rfl⟩
  · refine kinds (P := May s c f3 f7 n 0) k (may2_0 s c f3 f7 n) (may3_0 s c f3 f7 n) (may4_0 s c f3 f7 n) (may5_0 s c f3 f7 n) (may6_0 s c f3 f7 n) (may7_0 s c f3 f7 n) ?_ w
    intro k g2 g3 g4 g5 g6 g7 w
    have hr : immB k 0 n = (n == 0) := by simp [immB, g2, g3, g4, g5, g6, g7]; rw [Bool.eq_iff_iff]; simp
    rw [hr]
    clear hr
    unfold operV
    go_enter Tryz.func127, Tryz.ntmps127
    go_wp2_with fail
    go_ret
    exact ⟨rfl, bAlloc (Below.refl _ _) _⟩
  · exact may2_5 s c f3 f7 n w
  · exact may2_6 s c f3 f7 n w
end Go.Proofs.YtegoddghfjfibaaGreatDoor.Is

namespace Go.Proofs.YtegoddghfjfibaaGreatDoor
set_option linter.unusedVariables false
set_option linter.unusedSimpArgs false
open Go.ChangeShapes Go.WideShapes Go.ChangeAt Go.RowKit

set_option maxHeartbeats 4000000 in
theorem low_in (op : Int) (w : World) (h1 : 1 ≤ op) (h2 : op ≤ 36) : Calls Tryz.prog 64 #[.int .i64 op] w fun e w' => e = .returned (opV op) ∧ Below w.heap.size w w' := by
  have H1 := Lib.hid h1
  have H2 := Lib.hid h2
  clear h1 h2
  go_enter Tryz.func64, Tryz.ntmps64
  go_wp2_with fail
  all_goals first
    | (rename_i h; obtain rfl := eq_of_beq h; exact bodyPost_ret (by simp [results, Tryz.results64, go_sem]; rfl) rfl ⟨by simp only [opV_1, opV_2, opV_3, opV_4, opV_5, opV_6, opV_7, opV_8, opV_9, opV_10, opV_11, opV_12, opV_13, opV_14, opV_15, opV_16, opV_17, opV_18, opV_19, opV_20, opV_21, opV_22, opV_23, opV_24, opV_25, opV_26, opV_27, opV_28, opV_29, opV_30, opV_31, opV_32, opV_33, opV_34, opV_35, opV_36], bAlloc (Below.refl _ _) _⟩)
    | (exfalso; have := H1.out; have := H2.out; simp only [beq_eq_false_iff_ne, ne_eq] at *; omega)

end Go.Proofs.YtegoddghfjfibaaGreatDoor

namespace Go.Proofs.YtegoddghfjfibaaGreatDoor
set_option linter.unusedVariables false
set_option linter.unusedSimpArgs false
open Go.ChangeShapes Go.WideShapes Go.ChangeAt Go.RowKit

set_option maxHeartbeats 4000000 in
theorem high_in (op : Int) (w : World) (h1 : 37 ≤ op) (h2 : op ≤ 82) : Calls Tryz.prog 65 #[.int .i64 op] w fun e w' => e = .returned (opV op) ∧ Below w.heap.size w w' := by
  have H1 := Lib.hid h1
  have H2 := Lib.hid h2
  clear h1 h2
  go_enter Tryz.func65, Tryz.ntmps65
  go_wp2_with fail
  all_goals first
    | (rename_i h; obtain rfl := eq_of_beq h; exact bodyPost_ret (by simp [results, Tryz.results65, go_sem]; rfl) rfl ⟨by simp only [opV_37, opV_38, opV_39, opV_40, opV_41, opV_42, opV_43, opV_44, opV_45, opV_46, opV_47, opV_48, opV_49, opV_50, opV_51, opV_52, opV_53, opV_54, opV_55, opV_56, opV_57, opV_58, opV_59, opV_60, opV_61, opV_62, opV_63, opV_64, opV_65, opV_66, opV_67, opV_68, opV_69, opV_70, opV_71, opV_72, opV_73, opV_74, opV_75, opV_76, opV_77, opV_78, opV_79, opV_80, opV_81, opV_82], bAlloc (Below.refl _ _) _⟩)
    | (exfalso; have := H1.out; have := H2.out; simp only [beq_eq_false_iff_ne, ne_eq] at *; omega)

end Go.Proofs.YtegoddghfjfibaaGreatDoor


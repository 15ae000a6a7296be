/- Contracts of the document's functions on bits: bit, lay, number, field, below, registers. -/
import Derived.Test.YtdpmihlmfephiaaGreatDoorIsaF
import Derived.LoopTactic
import Derived.Deep.MidRow
import Derived.Deep.Cut
namespace Go.Proofs.YtdpmihlmfephiaaGreatDoor
set_option linter.unusedVariables false
set_option maxRecDepth 100000
set_option linter.unusedSimpArgs false
open Go.Joins Go.ChangeShapes Go.WideShapes Go.ChangeAt Go.RowKit

theorem and1_i64 (x : Int) : bits .and .i64 x 1 = x % 2 := by
  show IntKind.i64.wrap ((BitVec.ofInt 64 x &&& BitVec.ofInt 64 ((1 : Nat) : Int)).toNat : Int) = x % 2
  rw [BitVec.toNat_and, ofInt_u64 1 (by decide), nat_mask1, BitVec.toNat_ofInt]
  rw [IntKind.wrap_i64, show ((2 ^ 64 : Nat) : Int) = 18446744073709551616 from rfl]
  omega
theorem bit_any (n : Int) (i : Nat) (w : World) (hi : i < 64) :
    Calls Tryz.prog 96 #[.int .i64 n, .int .i64 (i : Int)] w fun e w' => e = .returned (.int .i64 (n / 2 ^ i % 2)) ∧ w = w' := by
  go_enter Tryz.func96, Tryz.ntmps96
  go_wp2_with fail
  go_ret
  exact ⟨ret_int (and1_i64 _), rfl⟩
def rgZ (k : Int) : Int := if (k == 1) = true then 7 else if (k == 2) = true then 3 else if (k == 3) = true then 3 else if (k == 8) = true then 3 else if (k == 4) = true then 6 else if (k == 5) = true then 6 else if (k == 10) = true then 6 else if (k == 6) = true then 1 else if (k == 7) = true then 1 else 0
theorem registers_any (k : Int) (w : World) :
    Calls Tryz.prog 59 #[.int .i64 k] w fun e w' => e = .returned (.int .i64 (rgZ k)) ∧ w = w' := by
  go_enter Tryz.func59, Tryz.ntmps59
  go_wp2_with fail
  all_goals exact bodyPost_ret (v := .int .i64 (rgZ k)) (by simp [results, Tryz.results59, go_sem, rgZ, *]) rfl ⟨rfl, rfl⟩
/-- a word of 32 bits, the lowest one first -/
def bitsL (N : Nat) : List Value := (List.range 32).map fun i => .int .i64 ((N / 2 ^ i % 2 : Nat) : Int)
def wordV (N : Nat) : Value := .agg (bitsL N).toArray
theorem bitsL_at (N j : Nat) (h : j < 32) : (bitsL N)[j]? = some (.int .i64 ((N / 2 ^ j % 2 : Nat) : Int)) := by
  unfold bitsL; rw [List.getElem?_map, List.getElem?_range h]; rfl
theorem bitsL_len (N : Nat) : (bitsL N).length = 32 := by simp [bitsL]
/-- a word stands in a block of its own, and may be written -/
def Box32 (W : World) (P : Nat) (N : Nat) : Prop := (∀ j, W.frozen? ⟨P, j, none⟩ = false) ∧ ∀ j : Nat, j < 32 → W.cell? ⟨P, j, none⟩ = some (.int .i64 ((N / 2 ^ j % 2 : Nat) : Int))
theorem Box32.new (W : World) (N : Nat) (t : TypeId) : Box32 (W.alloc (.cells (bitsL N).toArray t)) W.heap.size N := by
  refine ⟨boxedF (Below.refl _ _), fun j hj => ?_⟩
  rw [boxed (Below.refl _ _) j, List.getElem?_toArray, bitsL_at N j hj]
theorem Box32.lt {W : World} {P N : Nat} (h : Box32 W P N) : P < W.heap.size := heap_lt_of_cell (h.2 0 (by decide))
theorem Box32.on {W W' : World} {P N : Nat} (h : Box32 W P N) (hb : Below W.heap.size W W') : Box32 W' P N :=
  ⟨fun j => (frozen_below hb h.lt j).trans (h.1 j), fun j hj => (hb.cell (p := ⟨P, j, none⟩) h.lt).trans (h.2 j hj)⟩
theorem Box32.range {W : World} {P N : Nat} (h : Box32 W P N) : W.rangeAt P 0 (bitsL N) := by
  intro j v hj
  by_cases hl : j < 32
  · rw [bitsL_at N j hl] at hj
    rw [Nat.zero_add, h.2 j hl]
    exact hj
  · rw [List.getElem?_eq_none (by rw [bitsL_len]; omega)] at hj
    exact absurd hj (by simp)
theorem Box32.set {W : World} {P N M j : Nat} (h : Box32 W P N) (hj : j < 32) (b : Nat) (hb : M / 2 ^ j % 2 = b) (hs : ∀ i, i < 32 → i ≠ j → M / 2 ^ i % 2 = N / 2 ^ i % 2) : Box32 (W.setCell ⟨P, j, none⟩ (.int .i64 (b : Int))) P M := by
  refine ⟨fun i => (frozen_set _ _ _ _ _).trans (h.1 i), fun i hi => ?_⟩
  by_cases e : i = j
  · subst e
    rw [World.cell?_setCell_same (u := .int .i64 ((N / 2 ^ i % 2 : Nat) : Int)) _ _ _ (h.2 i hi), hb]
  · rw [World.cell?_setCell_other _ _ _ _ (by simp [e]), h.2 i hi, hs i hi e]
theorem Box32.other {W : World} {P N : Nat} (h : Box32 W P N) (Q j : Nat) (v : Value) (hne : P ≠ Q) : Box32 (W.setCell ⟨Q, j, none⟩ v) P N :=
  ⟨fun i => (frozen_set _ _ _ _ _).trans (h.1 i), fun i hi => (World.cell?_setCell_other _ _ _ _ (by simp [hne])).trans (h.2 i hi)⟩
/-- bit j of a number into which some bits were laid -/
theorem lay_bit (N to_ u k : Nat) (hN : N / 2 ^ to_ % 2 ^ (k + 1) = 0) (hu : u < 2 ^ (k + 1)) :
    (N + u * 2 ^ to_) / 2 ^ (to_ + k) % 2 = u / 2 ^ k % 2 ∧ ∀ i, i ≠ to_ + k → (N + u * 2 ^ to_) / 2 ^ i % 2 = (N + u % 2 ^ k * 2 ^ to_) / 2 ^ i % 2 := by
  have hu' : u % 2 ^ k < 2 ^ (k + 1) := Nat.lt_of_lt_of_le (Nat.mod_lt _ (Nat.pow_pos (by decide))) (Nat.pow_le_pow_right (by decide) (by omega))
  rw [← or_add N u to_ (k + 1) hu hN, ← or_add N (u % 2 ^ k) to_ (k + 1) hu' hN]
  have hb : ∀ x i, x / 2 ^ i % 2 = if x.testBit i then 1 else 0 := bit_of
  have hNb : ∀ i, to_ ≤ i → i < to_ + (k + 1) → N.testBit i = false := by
    intro i h1 h2
    have := congrArg (fun x => x.testBit (i - to_)) hN
    simp only [Nat.testBit_mod_two_pow, Nat.testBit_div_two_pow, Nat.zero_testBit, Nat.sub_add_cancel h1, decide_eq_true (show i - to_ < k + 1 by omega), Bool.true_and] at this
    exact this
  constructor
  · rw [hb, hb, Nat.testBit_or, Nat.testBit_mul_two_pow, hNb _ (by omega) (by omega), decide_eq_true (by omega), Bool.false_or, Bool.true_and, show to_ + k - to_ = k by omega]
  · intro i hi
    rw [hb, hb, Nat.testBit_or, Nat.testBit_or, Nat.testBit_mul_two_pow, Nat.testBit_mul_two_pow, Nat.testBit_mod_two_pow]
    by_cases h : to_ ≤ i
    · by_cases h2 : i - to_ < k
      · rw [decide_eq_true h2]; simp
      · have : u.testBit (i - to_) = false := Nat.testBit_lt_two_pow (Nat.lt_of_lt_of_le hu (Nat.pow_le_pow_right (by decide) (by omega)))
        rw [this]; simp
    · rw [decide_eq_false h]; simp

theorem results_cell_mid {P : Program} {fn : Func} {p : Tmp} {ty : TypeId} (h : fn.results = #[.cell p ty]) (tmps : Array Value) (w : World) (g : Nat) (cs : List Value) (d : TypeDesc)
    (hp : tmps.getD p undef = .pointer (some ⟨g, 0, none⟩)) (hc : w.rangeAt g 0 cs) (hu : P.underlying ty = some d) (hd : d.isRow = true) (hi : (P.info? ty).map (·.size) = some cs.length) :
    (results fn tmps).run P w = .ok (.agg cs.toArray) w := by
  have hp' : tmps[p]?.getD undef = .pointer (some ⟨g, 0, none⟩) := by simpa using hp
  simp [results, h, hp', asAddr, run_loadVar_mid w g 0 ty cs d hc hu hd hi]
theorem below_setCells {B : Nat} {w : World} (b : Nat) (hb : B ≤ b) : ∀ (vs : List Value) (o : Nat) (w' : World), Below B w w' → Below B w (w'.setCells b o vs)
  | [], _, _, h => h
  | v :: r, o, w', h => below_setCells b hb r (o + 1) _ (Below.setCell (p := ⟨b, o, none⟩) h hb v)
theorem Box32.there {W : World} {P N : Nat} (h : Box32 W P N) : W.there P 0 32 := fun j hj => ⟨by rw [Nat.zero_add, h.2 j hj]; rfl, h.1 _⟩
theorem bitsL_one (N : Nat) : ∀ v ∈ bitsL N, v.oneCell' = true := by
  intro v hv
  unfold bitsL at hv
  obtain ⟨i, -, rfl⟩ := List.mem_map.mp hv
  rfl
theorem wordSize (N : Nat) : (Tryz.prog.info? 88).map (·.size) = some (bitsL N).length := by rw [bitsL_len]; kernel_rfl
theorem bit_of_int (x : Int) (m k : Nat) (h : k < m) : x / 2 ^ k % 2 = (((x % 2 ^ m).toNat / 2 ^ k % 2 : Nat) : Int) := by
  have hp : (0 : Int) < 2 ^ m := Int.pow_pos (by decide)
  have h0 : 0 ≤ x % 2 ^ m := Int.emod_nonneg _ (by omega)
  obtain ⟨u, hu⟩ := Int.eq_ofNat_of_zero_le h0
  rw [hu, Int.toNat_natCast]
  have e := Int.emod_add_mul_ediv x (2 ^ m)
  rw [hu] at e
  have hk : (2 : Int) ^ m = 2 ^ k * (2 * 2 ^ (m - k - 1)) := by rw [← Int.pow_succ', ← Int.pow_add]; congr 1; omega
  have hx : x = (u : Int) + 2 ^ k * (2 * 2 ^ (m - k - 1) * (x / 2 ^ m)) := by rw [← Int.mul_assoc, ← hk]; exact e.symm
  have hk0 : (2 : Int) ^ k ≠ 0 := by have : (0 : Int) < 2 ^ k := Int.pow_pos (by decide); omega
  generalize x / 2 ^ m = q at hx
  rw [hx, Int.add_mul_ediv_left _ _ hk0, Int.mul_assoc, pow_cast, ← Int.natCast_ediv]
  omega
theorem lay_any (N f m t : Nat) (n : Int) (w : World) (hN : N / 2 ^ t % 2 ^ m = 0) (hf : f + m ≤ 64) (ht : t + m ≤ 32) :
    Calls Tryz.prog 60 #[wordV N, .int .i64 n, .int .i64 (f : Int), .int .i64 (m : Int), .int .i64 (t : Int)] w fun e w' => e = .returned (wordV (N + (n / 2 ^ f % 2 ^ m).toNat * 2 ^ t)) ∧ Below w.heap.size w w' := by
  obtain ⟨u, hu⟩ : ∃ u, (n / 2 ^ f % 2 ^ m).toNat = u := ⟨_, rfl⟩
  have hul : u < 2 ^ m := by
    have hp : (0 : Int) < 2 ^ m := Int.pow_pos (by decide)
    have h1 := Int.emod_lt_of_pos (n / 2 ^ f) hp
    have h0 : 0 ≤ n / 2 ^ f % 2 ^ m := Int.emod_nonneg _ (by omega)
    have h2 : (u : Int) < ((2 ^ m : Nat) : Int) := by rw [← hu, Int.toNat_of_nonneg h0, ← pow_cast]; exact h1
    omega
  have hbit : ∀ k, k < m → n / 2 ^ (f + k) % 2 = ((u / 2 ^ k % 2 : Nat) : Int) := by
    intro k hk
    rw [Int.pow_add, ← Int.ediv_ediv_of_nonneg (Int.le_of_lt (Int.pow_pos (by decide))), bit_of_int _ m k hk, hu]
  have hlay : ∀ k, k < m → (N + u % 2 ^ (k + 1) * 2 ^ t) / 2 ^ (t + k) % 2 = u / 2 ^ k % 2 ∧ ∀ i, i ≠ t + k → (N + u % 2 ^ (k + 1) * 2 ^ t) / 2 ^ i % 2 = (N + u % 2 ^ k * 2 ^ t) / 2 ^ i % 2 := by
    intro k hk
    have hN' : N / 2 ^ t % 2 ^ (k + 1) = 0 := by
      have e : 2 ^ m = 2 ^ (k + 1) * 2 ^ (m - (k + 1)) := by rw [← Nat.pow_add]; congr 1; omega
      rw [e] at hN
      have := Nat.mod_mul_right_mod (N / 2 ^ t) (2 ^ (k + 1)) (2 ^ (m - (k + 1)))
      rw [hN] at this
      simpa using this.symm
    have := lay_bit N t (u % 2 ^ (k + 1)) k hN' (Nat.mod_lt _ (Nat.pow_pos (by decide)))
    have e1 : u % 2 ^ (k + 1) / 2 ^ k % 2 = u / 2 ^ k % 2 := by
      rw [bit_of, bit_of, Nat.testBit_mod_two_pow, decide_eq_true (by omega), Bool.true_and]
    have e2 : u % 2 ^ (k + 1) % 2 ^ k = u % 2 ^ k := Nat.mod_mod_of_dvd _ (Nat.pow_dvd_pow 2 (by omega))
    rw [e1, e2] at this
    exact this
  rw [hu]
  have hlast : N + u % 2 ^ m * 2 ^ t = N + u * 2 ^ t := by rw [Nat.mod_eq_of_lt hul]
  have HB := Lib.hid hbit
  have HL := Lib.hid hlay
  have HE := Lib.hid hlast
  clear hu hbit hlay hlast hN hul
  unfold wordV
  obtain ⟨A, hA⟩ : ∃ A, (bitsL N).toArray = A := ⟨_, rfl⟩
  obtain ⟨R, hR⟩ : ∃ R, bitsL (N + u * 2 ^ t) = R := ⟨_, rfl⟩
  rw [hA, hR]
  have B0 := Box32.new w N 88
  rw [hA] at B0
  have X0 := Lib.hid B0
  have HA := Lib.hid hA
  have HR := Lib.hid hR
  clear hA hR B0
  go_enter Tryz.func60, Tryz.ntmps60
  go_wp2_with fail
  go_loopw [11] (fun i wr => ∃ k : Nat, k ≤ m ∧ i = .int .i64 k ∧ Hid (Box32 wr w.heap.size (N + u % 2 ^ k * 2 ^ t)) ∧ Hid (Box32 wr (w.heap.size + 1) 0) ∧ Hid (Below w.heap.size w wr)) (fun i _ => m - (intOf i).toNat)
  case atStart =>
    refine ⟨0, by omega, rfl, Lib.hid ?_, Lib.hid ?_, Lib.hid (bAlloc (bAlloc (Below.refl _ _) _) _)⟩
    · rw [Nat.pow_zero, Nat.mod_one, Nat.zero_mul, Nat.add_zero]
      exact X0.out.on (bAlloc (Below.refl _ _) _)
    · have := Box32.new (w.alloc (.cells A 88)) 0 88
      rw [size_alloc] at this
      exact this
  case round =>
    obtain ⟨k, hk, rfl, XW, XR, XB⟩ := hrel
    by_cases h : k < m
    · have hd : decide ((k : Int) < (m : Int)) = true := decide_eq_true (by omega)
      have e1 : ((t : Int) + (k : Int)).toNat = t + k := by omega
      have hc := XW.out.2 (t + k) (by omega)
      have hf := XW.out.1 (t + k)
      have e2 : (f : Int) + (k : Int) = ((f + k : Nat) : Int) := by omega
      have HX := Lib.hid e2
      clear e2
      go_wp2_with fail
      rw [HX.out]
      refine (bit_any n (f + k) _ (by omega)).mono ?_; rintro e w' ⟨rfl, rfl⟩
      rw [HB.out k h]
      go_wp2_with fail
      go_round
      case rel =>
        refine ⟨k + 1, by omega, by go_num, Lib.hid ?_, Lib.hid (XR.out.other _ _ _ (by omega)), Lib.hid (Below.setCell XB.out (Nat.le_refl _) _)⟩
        exact XW.out.set (by omega) _ (HL.out k h).1 (fun i _ hi => (HL.out k h).2 i hi)
      case measure => simp [intOf]; omega
    · have hd : decide ((k : Int) < (m : Int)) = false := decide_eq_false (by omega)
      obtain rfl : k = m := by omega
      have XE := XW.out
      rw [HE.out] at XE
      have hrg := XE.range
      have hsz := wordSize (N + u * 2 ^ t)
      have hone := bitsL_one (N + u * 2 ^ t)
      have hlen := bitsL_len (N + u * 2 ^ t)
      rw [HR.out] at hrg hsz hone hlen
      have HG := Lib.hid hrg
      have HS := Lib.hid hsz
      have HO := Lib.hid hone
      have HN := Lib.hid hlen
      clear XE hrg hsz hone hlen
      go_upto_region 5 with fail
      apply wp_region_lit
      refine wpList_load_mid rfl _ _ rfl w.heap.size 0 rfl R (.array 32 3) HG.out Tryz.underlying88 rfl HS.out ?_
      refine wpList_store_mid rfl _ _ _ rfl (w.heap.size + 1) 0 R.toArray rfl rfl ?_ ?_ (all_oneCell_toArray HO.out) ?_
      · have h : R.toArray.size = 32 := by rw [List.size_toArray]; exact HN.out
        rw [h]; exact XR.out.there
      · have h : R.toArray.size = R.length := by rw [List.size_toArray]
        rw [h]; exact HS.out
      go_wp2_with fail
      refine bodyPost_ret (v := .agg R.toArray) ?_ rfl ⟨rfl, ?_⟩
      · refine results_cell_mid Tryz.results60 _ _ (w.heap.size + 1) R (.array 32 3) rfl ?_ Tryz.underlying88 rfl HS.out
        exact World.rangeAt_setCells_same _ _ _ _ (by rw [HN.out]; exact XR.out.there)
      · exact below_setCells _ (by omega) _ _ _ XB.out
end Go.Proofs.YtdpmihlmfephiaaGreatDoor

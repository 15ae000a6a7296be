/- The program's small functions on texts: registers, numbers, labels' names, names in place of numbers. -/
import Derived.Test.YtdpmihlmfephiaaGreatDoorAsE
import Derived.Test.YtdpmihlmfephiaaGreatDoorAsF
namespace Go.Proofs.YtdpmihlmfephiaaGreatDoor
set_option linter.unusedVariables false
set_option linter.unusedSimpArgs false
open Go.Joins Go.ChangeShapes Go.WideShapes Go.ChangeAt Go.RowKit

/-- texts that stand in a block of their own -/
structure TX (w : World) (B : Nat) (xs : List (List UInt8)) : Prop where
  lt : B < w.heap.size
  cell : ∀ j x, xs[j]? = some x → w.cell? ⟨B, j, none⟩ = some (strV x)
theorem TX.on {w w' : World} {B : Nat} {xs : List (List UInt8)} (h : TX w B xs) (hb : Below w.heap.size w w') : TX w' B xs :=
  ⟨Nat.lt_of_lt_of_le h.lt hb.size, fun j x hx => (hb.cell (p := ⟨B, j, none⟩) h.lt).trans (h.cell j x hx)⟩
theorem TX.split (w : World) (xs : List (List UInt8)) : TX (splitW w xs) w.heap.size xs := by
  refine ⟨by unfold splitW; simp, fun j x hx => ?_⟩
  unfold splitW
  rw [World.cell?_alloc_new]
  simp [hx]
theorem below_split (w : World) (xs : List (List UInt8)) : Below w.heap.size w (splitW w xs) := bAlloc (Below.refl _ _) _
theorem add_l (x y z : List UInt8) (hz : x ++ y = z) (hx : x.length ≤ 1000000) (hy : y.length ≤ 1000000) : ∀ W : World, (Op.stringOp .add ⟨x.toArray⟩ ⟨y.toArray⟩).run Tryz.prog W = .ok (.string ⟨z.toArray⟩) W :=
  fun W => by rw [← hz]; exact run_string_add_lists W x y (by omega) (by omega)
theorem strV_mk (l : List UInt8) : strV l = .string ⟨l.toArray⟩ := rfl
theorem register_any (n : Int) (w : World) (hn : NA w) (h0 : -9223372036854775808 ≤ n) (h1 : n ≤ 9223372036854775807) :
    Calls Tryz.prog 70 #[.int .i64 n] w fun e w' => e = .returned (.string ⟨(regT n).toArray⟩) ∧ Below w.heap.size w w' := by
  have HC := Lib.hid (itoa_any n w hn h0 h1)
  have hl := Lib.itoa_length_le n h0 h1
  have k1 := add_l [99] (Lib.itoa n) (regT n) rfl (by decide) (by omega)
  clear hn h0 h1 hl
  go_enter Tryz.func70, Tryz.ntmps70
  go_wp2_with (go_at_call 83; refine HC.out.mono ?_; rintro e w1 ⟨rfl, hb⟩; have HB := Lib.hid hb; clear hb)
  go_ret
  exact ⟨rfl, HB.out⟩
theorem registerAt_any (B c : Nat) (xs : List (List UInt8)) (i : Nat) (w : World) (hn : NA w) (h : TX w B xs) (hx : ∀ x ∈ xs, x.length < 1000000) (hl : xs.length < 1000000) (hi : i < 1000) :
    Calls Tryz.prog 74 #[.slice (some ⟨B, 0, none⟩) xs.length c, .int .i64 i] w fun e w' => e = .returned (.int .i64 (regAt xs i)) ∧ Below w.heap.size w w' := by
  unfold regAt
  obtain ⟨n, hnl⟩ : ∃ n, xs.length = n := ⟨_, rfl⟩
  cases hq : xs[i]? with
  | none =>
    have hd : decide (n ≤ i) = true := decide_eq_true (by rw [← hnl]; exact List.getElem?_eq_none_iff.1 hq)
    have hd' : n ≤ i := by rw [← hnl]; exact List.getElem?_eq_none_iff.1 hq
    rw [hnl]
    clear hn h hx hq
    go_enter Tryz.func74, Tryz.ntmps74
    go_wp2_with fail
    go_ret
    exact ⟨rfl, Below.refl _ _⟩
  | some x =>
    have hlt : i < n := by rw [← hnl]; exact (List.getElem?_eq_some_iff.1 hq).1
    have hxl := hx x (List.mem_of_getElem? hq)
    have hc := h.cell i x hq
    have hd : decide (n ≤ i) = false := decide_eq_false (by omega)
    have HT := Lib.hid (fun W => trimP_any x [99] W)
    have HN := Lib.hid (fun W (hW : NA W) => number_any (Lib.trimPrefix x [99]) W hW (by have := Lib.trimPrefix_le x [99]; omega))
    have HA := Lib.hid hn
    rw [hnl]
    unfold strV at hc
    clear hn h hx hq hxl
    go_enter Tryz.func74, Tryz.ntmps74
    go_wp2_with (first
      | (go_at_call 106; refine (HT.out _).mono ?_; rintro e w1 ⟨rfl, rfl⟩)
      | (go_at_call 105; refine (HN.out _ HA.out).mono ?_; rintro e w2 ⟨rfl, hb⟩; have HB := Lib.hid hb; clear hb))
    go_ret
    exact ⟨rfl, HB.out⟩
theorem numberAt_any (B c : Nat) (xs : List (List UInt8)) (i : Nat) (w : World) (hn : NA w) (h : TX w B xs) (hx : ∀ x ∈ xs, x.length < 1000000) (hl : xs.length < 1000000) (hi : i < 1000) :
    Calls Tryz.prog 75 #[.slice (some ⟨B, 0, none⟩) xs.length c, .int .i64 i] w fun e w' => e = .returned (.int .i64 (numAt xs i)) ∧ Below w.heap.size w w' := by
  unfold numAt
  obtain ⟨n, hnl⟩ : ∃ n, xs.length = n := ⟨_, rfl⟩
  cases hq : xs[i]? with
  | none =>
    have hd : decide (n ≤ i) = true := decide_eq_true (by rw [← hnl]; exact List.getElem?_eq_none_iff.1 hq)
    have hd' : n ≤ i := by rw [← hnl]; exact List.getElem?_eq_none_iff.1 hq
    rw [hnl]
    clear hn h hx hq
    go_enter Tryz.func75, Tryz.ntmps75
    go_wp2_with fail
    go_ret
    exact ⟨rfl, Below.refl _ _⟩
  | some x =>
    have hlt : i < n := by rw [← hnl]; exact (List.getElem?_eq_some_iff.1 hq).1
    have hxl := hx x (List.mem_of_getElem? hq)
    have hc := h.cell i x hq
    have hd : decide (n ≤ i) = false := decide_eq_false (by omega)
    have HN := Lib.hid (fun W (hW : NA W) => number_any x W hW (by omega))
    have HA := Lib.hid hn
    rw [hnl]
    unfold strV at hc
    clear hn h hx hq hxl
    go_enter Tryz.func75, Tryz.ntmps75
    go_wp2_with (go_at_call 105; refine (HN.out _ HA.out).mono ?_; rintro e w2 ⟨rfl, hb⟩; have HB := Lib.hid hb; clear hb)
    go_ret
    exact ⟨rfl, HB.out⟩
/-! Labels. -/
def labelB (s : List UInt8) : Bool := Lib.hasSuffix s [58] && nameB (Lib.trimSuffix s [58])
theorem suf_last (s : List UInt8) (c : UInt8) : Lib.hasSuffix s [c] = true ↔ s.getLast? = some c := by
  unfold Lib.hasSuffix
  rw [List.isSuffixOf_iff_suffix]
  constructor
  · rintro ⟨t, rfl⟩; simp
  · intro h
    obtain ⟨t, rfl⟩ := List.getLast?_eq_some_iff.1 h
    exact ⟨t, rfl⟩
theorem trim_last {s : List UInt8} {c : UInt8} (h : s.getLast? = some c) : Lib.trimSuffix s [c] = s.dropLast := by
  obtain ⟨t, rfl⟩ := List.getLast?_eq_some_iff.1 h
  rw [trimS]; simp
theorem labelF_eq (s : List UInt8) : labelF s = if labelB s = true then some (Lib.trimSuffix s [58]) else none := by
  unfold labelF labelB
  by_cases h : s.getLast? = some 58
  · rw [(suf_last s 58).2 h, trim_last h, Bool.true_and]
    simp [h]
  · have : Lib.hasSuffix s [58] = false := by rw [Bool.eq_false_iff]; exact fun e => h ((suf_last s 58).1 e)
    rw [this, if_neg (by simp [h]), if_neg (by simp)]
theorem labelName_any (s : List UInt8) (w : World) (hl : s.length < 1000000) :
    Calls Tryz.prog 42 #[.string ⟨s.toArray⟩] w fun e w' => e = .returned (.tuple #[.string ⟨(Lib.trimSuffix s [58]).toArray⟩, .bool (labelB s)]) ∧ w = w' := by
  have H1 := Lib.hid (fun W => cutS_any s [58] W (by omega))
  have hle := Lib.trimSuffix_le s [58]
  have H2 := Lib.hid (fun W => isName_any (Lib.trimSuffix s [58]) W (by omega))
  unfold labelB
  clear hle
  cases h : Lib.hasSuffix s [58] with
  | true =>
    rw [h] at H1
    rw [Bool.true_and]
    go_enter Tryz.func42, Tryz.ntmps42
    go_wp2_with (first
      | (go_at_call 80; refine (H1.out _).mono ?_; rintro e w1 ⟨rfl, rfl⟩)
      | (go_at_call 81; refine (H2.out _).mono ?_; rintro e w2 ⟨rfl, rfl⟩))
    go_ret2
    exact ⟨rfl, rfl⟩
  | false =>
    rw [h] at H1
    rw [Bool.false_and]
    go_enter Tryz.func42, Tryz.ntmps42
    go_wp2_with (first
      | (go_at_call 80; refine (H1.out _).mono ?_; rintro e w1 ⟨rfl, rfl⟩)
      | (go_at_call 81; refine (H2.out _).mono ?_; rintro e w2 ⟨rfl, rfl⟩))
    go_ret2
    exact ⟨rfl, rfl⟩
/-! Names in place of numbers. -/
theorem lastIndex_in (s : List UInt8) : Lib.lastIndex s sepT < 0 ∨ ∃ i : Nat, Lib.lastIndex s sepT = i ∧ i + 2 ≤ s.length := by
  unfold Lib.lastIndex
  split
  · rename_i h
    have h2 : sepT.length = 2 := rfl
    rcases Lib.lastOcc_spec s sepT (s.length - sepT.length + 1) with ⟨e, -⟩ | ⟨i, hi, e, ho, -⟩
    · left; rw [e]; decide
    · right
      refine ⟨i, e, ?_⟩
      rw [h2] at hi h
      omega
  · left; decide
def AimPost (s : List UInt8) (w : World) (e : Ending) (w' : World) : Prop :=
  ∃ h nm b, e = .returned (.tuple #[.string ⟨List.toArray h⟩, .string ⟨List.toArray nm⟩, .bool b]) ∧ (b = (aimF s).isSome) ∧ (∀ y, aimF s = some y → h = y.1 ∧ nm = y.2) ∧ Below w.heap.size w w'
theorem find_fn (s : List UInt8) : FindP s (findF s) := by
  unfold FindP findF
  cases h : (List.range 82).findIdx? (fun (k : Nat) => opN ((k : Int) + 1) == s) with
  | none =>
    rw [List.findIdx?_eq_none_iff] at h
    exact .inl ⟨rfl, fun k hk => by simpa using h k (List.mem_range.2 hk)⟩
  | some k =>
    rw [List.findIdx?_eq_some_iff_getElem] at h
    obtain ⟨hk, hq, hm⟩ := h
    simp at hk hq
    refine .inr ⟨by simp, by simp only []; omega, ?_, fun j hj => ?_⟩
    · rw [show (((k + 1 : Nat) : Int)) = (k : Int) + 1 by omega]
      simpa using hq
    · have := hm j (by simp only [] at hj; omega)
      simpa using this
theorem kindA_eq (op : Int) : kindO op = kindA op := rfl
set_option maxHeartbeats 1000000 in
theorem splitName_any (s : List UInt8) (w : World) (hn : NA w) (hl : s.length < 1000000) :
    Calls Tryz.prog 82 #[.string ⟨s.toArray⟩] w (AimPost s w) := by
  have H1 := Lib.hid (cut_any s [32] w hn (by omega))
  have H2 := Lib.hid (fun W (hW : NA W) => find_any (Lib.cut s [32]).1 _ (find_fn _) W hW.nt)
  have H3 := Lib.hid (fun W (hW : NA W) => kind_any ((findF (Lib.cut s [32]).1 : Nat)) W hW.nt)
  have H4 := Lib.hid (fun W => last_any s sepT W (by omega))
  have HNA := Lib.hid hn
  have HK : kindS s = kindO ((findF (Lib.cut s [32]).1 : Nat)) := rfl
  obtain ⟨k, hk⟩ : ∃ k, kindO ((findF (Lib.cut s [32]).1 : Nat)) = k := ⟨_, rfl⟩
  rw [hk] at H3 HK
  have hno : ∀ (h nm : List UInt8) (W : World), aimF s = none → Below w.heap.size w W → AimPost s w (.returned (.tuple #[.string ⟨h.toArray⟩, .string ⟨nm.toArray⟩, .bool false])) W := fun h nm W ha hb =>
    ⟨h, nm, false, rfl, by rw [ha]; rfl, fun y hy => (by rw [ha] at hy; cases hy), hb⟩
  have HNO := Lib.hid hno
  clear hno hk hn
  by_cases hkk : k = 5 ∨ k = 7
  · have hif : ((kindS s == 5) = true ∨ (kindS s == 7) = true) := by rw [HK]; simpa using hkk
    have d1 : (k != 5 && k != 7) = false := by rcases hkk with rfl | rfl <;> rfl
    rcases lastIndex_in s with hneg | ⟨i, hi, hroom⟩
    · have ha : aimF s = none := by unfold aimF; rw [if_pos hif, if_pos hneg]
      have HA := Lib.hid ha
      obtain ⟨z, hz⟩ : ∃ z, Lib.lastIndex s sepT = z := ⟨_, rfl⟩
      rw [hz] at H4 hneg
      have hd : decide (z < 0) = true := decide_eq_true hneg
      clear ha hz hif HK
      rcases hkk with rfl | rfl
      all_goals
        go_enter Tryz.func82, Tryz.ntmps82
        go_wp2_with (first
          | (go_at_call 32; refine H1.out.mono ?_; rintro e w1 ⟨rfl, hb⟩; have HB1 := Lib.hid hb; have HN1 := Lib.hid (HNA.out.on hb); clear hb)
          | (go_at_call 33; refine (H2.out _ HN1.out).mono ?_; rintro e w2 ⟨rfl, rfl⟩)
          | (go_at_call 36; refine (H3.out _ HN1.out).mono ?_; rintro e w3 ⟨rfl, hb⟩; have HB3 := Lib.hid (HB1.out.trans (hb.mono HB1.out.size)); clear hb)
          | (go_at_call 117; refine (H4.out _).mono ?_; rintro e w4 ⟨rfl, rfl⟩))
        go_ret3
        exact HNO.out [] [] _ HA.out HB3.out
    · have hsp : aimF s = if nameB (s.drop (i + 2)) = true then some (s.take (i + 2), s.drop (i + 2)) else none := by
        unfold aimF
        rw [if_pos hif, hi, if_neg (by omega), Int.toNat_natCast]
      have H5 := Lib.hid (fun W => isName_any (s.drop (i + 2)) W (by rw [List.length_drop]; omega))
      have HSP := Lib.hid hsp
      rw [hi] at H4
      have hd : decide ((i : Int) < 0) = false := decide_eq_false (by omega)
      have hsz : (⟨s.toArray⟩ : ByteArray).size = s.length := mk_size s
      have hex1 : (⟨s.toArray⟩ : ByteArray).extract 0 (i + 2) = ⟨(s.take (i + 2)).toArray⟩ := by rw [Lib.extract_mk]; simp
      have hex2 : (⟨s.toArray⟩ : ByteArray).extract (i + 2) s.length = ⟨(s.drop (i + 2)).toArray⟩ := by rw [Lib.extract_mk, ← List.length_drop, List.take_length]
      clear hsp hi hif HK
      rcases hkk with rfl | rfl
      all_goals
        go_enter Tryz.func82, Tryz.ntmps82
        go_wp2_with (first
          | (go_at_call 32; refine H1.out.mono ?_; rintro e w1 ⟨rfl, hb⟩; have HB1 := Lib.hid hb; have HN1 := Lib.hid (HNA.out.on hb); clear hb)
          | (go_at_call 33; refine (H2.out _ HN1.out).mono ?_; rintro e w2 ⟨rfl, rfl⟩)
          | (go_at_call 36; refine (H3.out _ HN1.out).mono ?_; rintro e w3 ⟨rfl, hb⟩; have HB3 := Lib.hid (HB1.out.trans (hb.mono HB1.out.size)); clear hb)
          | (go_at_call 117; refine (H4.out _).mono ?_; rintro e w4 ⟨rfl, rfl⟩)
          | (go_at_call 81; refine (H5.out _).mono ?_; rintro e w5 ⟨rfl, rfl⟩))
        go_region
        go_wp2_with (go_at_call 81; refine (H5.out _).mono ?_; rintro e w5 ⟨rfl, rfl⟩)
        go_ret3
        refine ⟨s.take (i + 2), s.drop (i + 2), nameB (s.drop (i + 2)), rfl, ?_, fun y hy => ?_, Below.drew HB3.out⟩
        · rw [HSP.out]; cases nameB (s.drop (i + 2)) <;> rfl
        · rw [HSP.out] at hy
          split at hy
          · cases hy; exact ⟨rfl, rfl⟩
          · cases hy
  · have ha : aimF s = none := by
      unfold aimF
      rw [if_neg]
      rw [HK]; simpa using hkk
    have HA := Lib.hid ha
    have d1 : (k == 5) = false := by simpa using fun e => hkk (.inl e)
    have d2 : (k == 7) = false := by simpa using fun e => hkk (.inr e)
    have d3 : (k != 5) = true := by simpa using fun e => hkk (.inl e)
    have d4 : (k != 7) = true := by simpa using fun e => hkk (.inr e)
    clear ha HK hkk
    go_enter Tryz.func82, Tryz.ntmps82
    go_wp2_with (first
      | (go_at_call 32; refine H1.out.mono ?_; rintro e w1 ⟨rfl, hb⟩; have HB1 := Lib.hid hb; have HN1 := Lib.hid (HNA.out.on hb); clear hb)
      | (go_at_call 33; refine (H2.out _ HN1.out).mono ?_; rintro e w2 ⟨rfl, rfl⟩)
      | (go_at_call 36; refine (H3.out _ HN1.out).mono ?_; rintro e w3 ⟨rfl, hb⟩; have HB3 := Lib.hid (HB1.out.trans (hb.mono HB1.out.size)); clear hb))
    go_ret3
    exact HNO.out [] [] _ HA.out HB3.out
end Go.Proofs.YtdpmihlmfephiaaGreatDoor

/- The laws' walks: HashOf, HashMakes, HashFinds. -/
import Derived.Test.YtniefpdibmpngaaHasI
namespace Go.Proofs.Ytniefpdibmpngaa
set_option linter.unusedVariables false
set_option linter.unusedSimpArgs false
open Go.Joins Go.ChangeShapes Go.WideShapes Go.ChangeAt Go.RowKit

set_option maxHeartbeats 1000000 in
theorem HashOf_walk (s : List UInt8) (y : Sym) (w : World) (hs : s.length < 9223372036854775808) :
    Calls Try.prog 3 #[.string ⟨s.toArray⟩, symV y] w fun e w' => e = .returned (.bool true) ∧ Below w.heap.size w w' := by
  unfold symV symC
  have hlt : ((ofH s : Nat) : Int) < 268435456 := by have := ofH_lt s; omega
  have hself : (((ofH s : Nat) : Int) == ((ofH s : Nat) : Int)) = true := beq_self_eq_true _
  have hself2 : (shownB y == shownB y) = true := beq_self_eq_true _
  have HBX := Lib.hid (fun (W : World) (h : Below (w.alloc (.cells #[.string ⟨y.name.toArray⟩, .string ⟨y.ver.toArray⟩, .int .u64 y.place, .int .u64 y.size, .int .i64 y.kind, .int .i64 y.bind, .int .i64 y.seen, .bool y.defd] 24)).heap.size (w.alloc (.cells #[.string ⟨y.name.toArray⟩, .string ⟨y.ver.toArray⟩, .int .u64 y.place, .int .u64 y.size, .int .i64 y.kind, .int .i64 y.bind, .int .i64 y.seen, .bool y.defd] 24)) W) => boxed h)
  have HLT := Lib.hid hlt
  have HOF := Lib.hid (fun w => of_any s w hs)
  have HRO := Lib.hid (fun w => rof_any s w hs)
  obtain ⟨h, hh⟩ : ∃ h : Nat, ofH s = h := ⟨_, rfl⟩
  rw [hh] at hlt hself HOF HRO HLT
  clear hh
  by_cases hl : 1000 < s.length
  · have d : decide ((1000 : Int) < (s.length : Int)) = true := decide_eq_true (by omega)
    go_enter Try.func3, Try.ntmps3
    go_wp2_with fail
    refine (awake_any _).mono ?_; rintro e w1 ⟨rfl, hb⟩
    have HB := Lib.hid (bTrans (bAlloc (Below.refl _ _) _) hb)
    clear hb
    go_wp2_with fail
    go_ret
    exact ⟨rfl, HB.out⟩
  · have d : decide ((1000 : Int) < (s.length : Int)) = false := decide_eq_false (by omega)
    go_enter Try.func3, Try.ntmps3
    go_wp2_with fail
    refine (awake_any _).mono ?_; rintro e w1 ⟨rfl, hb⟩
    have HB := Lib.hid (bTrans (bAlloc (Below.refl _ _) _) hb)
    have k := HBX.out _ hb
    have k0 := (k 0).trans rfl; have k1 := (k 1).trans rfl; have k2 := (k 2).trans rfl; have k3 := (k 3).trans rfl; have k4 := (k 4).trans rfl; have k5 := (k 5).trans rfl; have k6 := (k 6).trans rfl; have k7 := (k 7).trans rfl
    have hz : w.heap.size < w1.heap.size := by have := hb.size; simp at this; omega
    clear hb k
    go_wp2_with fail
    refine (HOF.out _).mono ?_; rintro e w' ⟨rfl, rfl⟩
    go_wp2_with fail
    refine (shown_sym y _).mono ?_; rintro e w2 ⟨rfl, hb2⟩
    have g0 := (hb2.cell (p := ⟨w.heap.size, 0, none⟩) hz).trans k0; have g1 := (hb2.cell (p := ⟨w.heap.size, 1, none⟩) hz).trans k1; have g2 := (hb2.cell (p := ⟨w.heap.size, 2, none⟩) hz).trans k2; have g3 := (hb2.cell (p := ⟨w.heap.size, 3, none⟩) hz).trans k3; have g4 := (hb2.cell (p := ⟨w.heap.size, 4, none⟩) hz).trans k4; have g5 := (hb2.cell (p := ⟨w.heap.size, 5, none⟩) hz).trans k5; have g6 := (hb2.cell (p := ⟨w.heap.size, 6, none⟩) hz).trans k6; have g7 := (hb2.cell (p := ⟨w.heap.size, 7, none⟩) hz).trans k7
    have HB2 := Lib.hid (bTrans HB.out hb2)
    clear hb2 k0 k1 k2 k3 k4 k5 k6 k7
    go_wp2_with fail
    refine (HRO.out _).mono ?_; rintro e w' ⟨rfl, rfl⟩
    go_wp2_with fail
    refine (rshown_sym y _).mono ?_; rintro e w3 ⟨rfl, hb3⟩
    have HB3 := Lib.hid (bTrans HB2.out hb3)
    clear hb3
    go_wp2_with fail
    go_ret
    exact ⟨ret_bool (by simp), HB3.out⟩
theorem dec_self {α : Type} [DecidableEq α] (a : α) : decide (a = a) = true := decide_eq_true rfl
theorem numbers_self (a b : Option Addr) (n c m d : Nat) (l : List Int) (w : World) (hl : Rd w a n (i64s l)) (hr : Rd w b m (i64s l)) (hn : n ≤ 9223372036854775807) (hm : m ≤ 9223372036854775807) :
    Calls Try.prog 16 #[.slice a n c, .slice b m d] w fun e w' => e = .returned (.bool true) ∧ Below w.heap.size w w' := by
  refine (numbers_any a b n c m d l l w hl hr hn hm).mono fun e w' ⟨he, hq⟩ => ⟨?_, quiet_below hq⟩
  rw [he, dec_self]
theorem valid_self (ab ac a : Option Addr) (l : List Sym) (cb cc c n : Nat) (w : World) (hl : RdS w a l) (h3 : l.length ≤ 40) (hnm : ∀ s ∈ l, s.name.length < 9223372036854775808) (h1 : 1 ≤ n) (h2 : n ≤ 64)
    (hb : Rd w ab n (i64s (bucketsZ l n n))) (hch : Rd w ac l.length (i64s (chainZ l n l.length))) :
    Calls Try.prog 15 #[.agg #[.slice ab n cb, .slice ac l.length cc], .slice a l.length c] w fun e w' => e = .returned (.bool true) ∧ Below w.heap.size w w' := by
  refine (valid_any ab ac a l cb cc c n l.length _ _ w hl h3 hnm h1 h2 hb hch (by omega)).mono fun e w' ⟨he, hq⟩ => ⟨?_, hq⟩
  rw [he, dec_self, dec_self]; rfl
set_option maxHeartbeats 2000000 in
theorem HashMakes_walk (a : Option Addr) (l : List Sym) (c : Nat) (n : Int) (w : World) (hl : RdS w a l) (hnm : ∀ s ∈ l, s.name.length < 9223372036854775808) (hm : l.length ≤ 9223372036854775807) :
    Calls Try.prog 4 #[.slice a l.length c, .int .i64 n] w fun e w' => e = .returned (.bool true) ∧ Below w.heap.size w w' := by
  by_cases hbad : n < 1 ∨ 64 < n ∨ 40 < l.length
  · have HNO := Lib.hid (fun w => make_no a l.length c n hbad w)
    have HBAD := Lib.hid hbad
    clear hl hnm
    generalize hlm : l.length = m at *
    clear hlm
    clear hbad
    go_enter Try.func4, Try.ntmps4
    go_wp2_with fail
    refine (awake_any _).mono ?_; rintro e w1 ⟨rfl, hb⟩
    have HB := Lib.hid hb
    clear hb
    go_wp2_with fail
    refine (HNO.out _).mono ?_; rintro e w2 ⟨rfl, hb2⟩
    have HB2 := Lib.hid (bTrans HB.out hb2)
    clear hb2
    go_wp2_with fail
    all_goals first
      | (exfalso; have := HBAD.out; omega)
      | (go_ret; exact ⟨ret_bool (by simp), bAlloc HB2.out _⟩)
  · obtain ⟨n, rfl⟩ := Int.eq_ofNat_of_zero_le (show 0 ≤ n by omega)
    have h1 : 1 ≤ n := by omega
    have h2 : n ≤ 64 := by omega
    have h3 : l.length ≤ 40 := by omega
    have d1 : decide ((n : Int) < 1) = false := decide_eq_false (by omega)
    have d2 : decide (64 < (n : Int)) = false := decide_eq_false (by omega)
    have d3 : decide (40 < (l.length : Int)) = false := decide_eq_false (by omega)
    have HMK := Lib.hid (fun W (hW : RdS W a l) => make_any a l c n h1 h2 h3 W hW hnm)
    have HV := Lib.hid (fun ab ac cb cc W (hW : RdS W a l) hb hc => valid_self ab ac a l cb cc c n W hW h3 hnm h1 h2 hb hc)
    have HBK := Lib.hid (fun W (hW : RdS W a l) => buckets_any a l c n W hW (by omega) hnm h1 h2)
    have HCK := Lib.hid (fun W (hW : RdS W a l) => chain_any a l c n W hW (by omega) hnm h1 h2)
    have HL := Lib.hid hl
    clear hl hnm hbad
    generalize hlm : l.length = m at *
    have HLM := Lib.hid hlm
    clear hlm
    go_enter Try.func4, Try.ntmps4
    go_wp2_with fail
    refine (awake_any _).mono ?_; rintro e w1 ⟨rfl, hb⟩
    have HB := Lib.hid hb
    clear hb
    go_wp2_with fail
    refine (HMK.out _ (HL.out.below HB.out)).mono ?_; rintro e w2 ⟨B, C, rfl, hB, hC, hBl, hCl, hb2⟩
    rw [HLM.out] at hC ⊢
    have HB2 := Lib.hid (bTrans HB.out hb2)
    have HBR := Lib.hid hB
    have HCR := Lib.hid hC
    clear hb2 hB hC hBl hCl
    go_wp2_with fail
    refine (HV.out _ _ _ _ _ (HL.out.below (bAlloc HB2.out _)) (HBR.out.alloc _) (HCR.out.alloc _)).mono ?_; rintro e w3 ⟨rfl, hb3⟩
    have HB3 := Lib.hid (bTrans (bAlloc HB2.out _) hb3)
    have hx := boxed hb3
    have HBR3 := Lib.hid ((HBR.out.alloc _).below hb3)
    have HCR3 := Lib.hid ((HCR.out.alloc _).below hb3)
    have x01 : w3.cell? ⟨w2.heap.size, 0, none⟩ = some (.slice (some ⟨B, 0, none⟩) n n) ∧ w3.cell? ⟨w2.heap.size, 1, none⟩ = some (.slice (some ⟨C, 0, none⟩) m m) := ⟨(hx 0).trans rfl, (hx 1).trans rfl⟩
    have hz : w2.heap.size < w3.heap.size := by have := hb3.size; simp at this; omega
    have X := Lib.hid x01
    have HKP := Lib.hid (fun (W : World) (h : Below w3.heap.size w3 W) => And.intro ((h.cell (p := ⟨w2.heap.size, 0, none⟩) hz).trans x01.1) ((h.cell (p := ⟨w2.heap.size, 1, none⟩) hz).trans x01.2))
    clear hb3 hx x01
    go_wp2_with fail
    go_region_held3 (fun W => W.cell? ⟨w2.heap.size, 0, none⟩ = some (.slice (some ⟨B, 0, none⟩) n n) ∧ W.cell? ⟨w2.heap.size, 1, none⟩ = some (.slice (some ⟨C, 0, none⟩) m m))
      (first | exact X.out | exact HKP.out _ H4.out | exact HKP.out _ H5.out | exact HKP.out _ H6.out | exact HKP.out _ H7.out | go_keep)
      (first
        | (go_at_call 17; (with_reducible refine (HBK.out _ (HL.out.below (Below.drew HB3.out))).mono ?_); rintro e w4 ⟨v, rfl, ho, hb4⟩; obtain ⟨a4, c4, rfl, hl4⟩ := own_slice ho; have H4 := Lib.hid (bTrans (Below.drew (Below.refl _ _)) hb4); have R4 := Lib.hid (Rd.of_own ho); have HBR4 := Lib.hid (HBR3.out.below H4.out); clear ho hb4)
        | (go_at_call 16; (with_reducible refine (numbers_self _ _ _ _ _ _ _ _ HBR4.out R4.out (by omega) (by omega)).mono ?_); rintro e w5 ⟨rfl, hq5⟩; have H5 := Lib.hid (bTrans H4.out hq5); clear hq5)
        | (go_at_call 18; (with_reducible refine (HCK.out _ (HL.out.below (bTrans HB3.out H5.out))).mono ?_); rintro e w6 ⟨v, rfl, ho, hb6⟩; obtain ⟨a6, c6, rfl, hl6⟩ := own_slice ho; have H6 := Lib.hid (bTrans H5.out hb6); have R6 := Lib.hid (Rd.of_own ho); have HCR6 := Lib.hid (HCR3.out.below H6.out); clear ho hb6)
        | (go_at_call 16; (with_reducible refine (numbers_self _ _ _ _ _ _ _ _ HCR6.out R6.out (by omega) (by omega)).mono ?_); rintro e w7 ⟨rfl, hq7⟩; have H7 := Lib.hid (bTrans H6.out hq7); clear hq7))
    go_wp2_with fail
    go_ret
    exact ⟨rfl, bTrans HB3.out H7.out⟩
end Go.Proofs.Ytniefpdibmpngaa

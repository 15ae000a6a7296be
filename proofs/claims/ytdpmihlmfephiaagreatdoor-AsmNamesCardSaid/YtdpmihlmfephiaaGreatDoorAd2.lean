/- AsmPrints: the law's walk; the document's List; AsmLists: the law's walk. -/
import Derived.Test.YtdpmihlmfephiaaGreatDoorAd1
import Derived.Test.YtdpmihlmfephiaaGreatDoorIsaDD
namespace Go.Proofs.YtdpmihlmfephiaaGreatDoor
set_option linter.unusedVariables false
set_option linter.unusedSimpArgs false
open Go.Joins Go.ChangeShapes Go.WideShapes Go.ChangeAt Go.RowKit Go.Deep

set_option maxHeartbeats 1000000 in
theorem AsmPrints_walk (op rd rs1 rs2 n : Int) (w : World) (hn : NA w) (hi : I64 n) :
    Calls Tryz.prog 3 #[.agg #[.int .i64 op, .int .i64 rd, .int .i64 rs1, .int .i64 rs2, .int .i64 n]] w fun e w' => e = .returned (.bool true) ∧ Below w.heap.size w w' := by
  have HN := Lib.hid (hn.alloc (.cells #[.int .i64 op, .int .i64 rd, .int .i64 rs1, .int .i64 rs2, .int .i64 n] 23))
  have HB0 := Lib.hid (bAlloc (Below.refl w.heap.size w) (.cells #[.int .i64 op, .int .i64 rd, .int .i64 rs1, .int .i64 rs2, .int .i64 n] 23))
  have HX0 := Lib.hid (BoxN.new w #[.int .i64 op, .int .i64 rd, .int .i64 rs1, .int .i64 rs2, .int .i64 n] 23)
  have HAW := Lib.hid awake_any
  have HPR := Lib.hid (fun W (hW : NA W) => print_any op ⟨rd, rs1, rs2, n⟩ W hW hi)
  have HRP := Lib.hid (fun W => rprint_any op ⟨rd, rs1, rs2, n⟩ W hi)
  obtain ⟨t, ht⟩ : ∃ t, priT op ⟨rd, rs1, rs2, n⟩ = t := ⟨_, rfl⟩
  obtain ⟨z, hz⟩ : ∃ z, priE op ⟨rd, rs1, rs2, n⟩ = z := ⟨_, rfl⟩
  rw [ht, hz] at HPR HRP
  simp only [] at HRP
  clear hn hi ht hz
  go_enter Tryz.func3, Tryz.ntmps3
  go_wp2_with (first
    | (go_at_call 12; refine (HAW.out _ HN.out).mono ?_; rintro e w1 ⟨rfl, hb⟩; have HB1 := Lib.hid (HB0.out.trans (hb.mono HB0.out.size)); have HN1 := Lib.hid (HN.out.on hb); have HX1 := Lib.hid (boxN_below HX0.out hb); obtain ⟨⟨q0, q1, q2, q3, q4⟩, -⟩ := box5 HX1.out; clear hb)
    | (go_at_call 13; refine (HPR.out _ HN1.out).mono ?_; rintro e w2 ⟨rfl, hb⟩; have HB2 := Lib.hid (HB1.out.trans (hb.mono HB1.out.size)); obtain ⟨⟨r0, r1, r2, r3, r4⟩, -⟩ := box5 (boxN_below HX1.out hb); clear hb)
    | (go_at_call 14; refine (HRP.out _).mono ?_; rintro e w3 ⟨rfl, hb⟩; have HB3 := Lib.hid (HB2.out.trans (hb.mono HB2.out.size)); clear hb))
  go_ret
  exact ⟨rfl, HB3.out⟩
theorem slice_mid (w : World) (a : Option Addr) (i n c : Nat) (hn : i + 4 ≤ n) (hc : n ≤ c) : (Instr.slice 32 (.slice a n c) (some (.int .i64 (i : Int))) (some (.int .i64 ((i : Int) + 4))) none).run Tryz.prog w = .ok (.slice (cutA a i c) 4 (c - i)) w := by
  have hu := Tryz.underlying32
  have ho : (sizeOf 5).run Tryz.prog w = .ok 1 w := by kernel_rfl
  have he : Tryz.prog.elem 32 = 5 := by kernel_rfl
  rw [run_slice_lh w 32 a n c (by rw [he]; exact hu) .i64 .i64 (i : Int) ((i : Int) + 4) (by omega) (by omega) (by omega), he, ho]
  simp only [Result.andThen, sliced]
  have h1 : (i : Int).toNat = i := Int.toNat_natCast i
  have h2 : ((i : Int) + 4).toNat - i = 4 := by omega
  rw [h1, h2]
  simp [cutA]
theorem sliceAt_mid (w : World) (a : Option Addr) (i n c : Nat) (hn : i + 4 ≤ n) (hc : n ≤ c) : (Instr.sliceAt 32 (.slice a n c) (some (.int .i64 (i : Int))) (some (.int .i64 ((i : Int) + 4))) none).run Tryz.prog w = .ok (.slice (cutA a i c) 4 (c - i)) w := by
  have hu := Tryz.underlying32
  have he : Tryz.prog.elem 32 = 5 := by kernel_rfl
  rw [run_sliceAt_slice w 32 _ _ _ _ (by rw [he]; exact hu)]
  exact slice_mid w a i n c hn hc
theorem rlist_odd (a : Option Addr) (n c : Nat) (w : World) (h : n % 4 ≠ 0) (hn : n ≤ 8000) : Calls Tryz.prog 21 #[.slice a n c] w (ListPost ([], 1) w) := by
  have h4 : (n : Int) % 4 ≠ 0 := by omega
  have h5 : (n : Int).tmod 4 ≠ 0 := by rw [Int.tmod_eq_emod_of_nonneg (by omega)]; exact h4
  have d1 : ((n : Int).tmod 4 == 0) = false := by simpa using h5
  have d2 : ((n : Int).tmod 4 != 0) = true := by simpa using h5
  have d3 : ((n : Int) % 4 == 0) = false := by simpa using h4
  have d4 : ((n : Int) % 4 != 0) = true := by simpa using h4
  have hw : IntKind.i64.wrap ((n : Int).tmod 4) = (n : Int).tmod 4 := by rw [IntKind.wrap_i64, Int.tmod_eq_emod_of_nonneg (by omega)]; omega
  go_enter Tryz.func21, Tryz.ntmps21
  go_wp2_with fail
  go_ret2
  exact ⟨rfl, Below.refl _ _⟩
set_option maxRecDepth 100000 in
set_option maxHeartbeats 4000000 in
theorem rlist_even (a : Option Addr) (l : List UInt8) (n c : Nat) (w : World) (hr : Rd w a n (u8B l)) (hc : n ≤ c) (h : n % 4 = 0) (hn : n ≤ 8000) : Calls Tryz.prog 21 #[.slice a n c] w (ListPost (listA (n / 4) l []) w) := by
  have h4 : (n : Int) % 4 = 0 := by omega
  have h5 : (n : Int).tmod 4 = 0 := by rw [Int.tmod_eq_emod_of_nonneg (by omega)]; exact h4
  have hw : IntKind.i64.wrap (0 : Int) = 0 := by decide
  have HR := Lib.hid hr
  have HC := Lib.hid hc
  have HM := Lib.hid h
  have HNN := Lib.hid hn
  obtain ⟨out, hout⟩ : ∃ out, listA (n / 4) l [] = out := ⟨_, rfl⟩
  rw [hout]
  have HOUT := Lib.hid hout
  clear hr hc hout hn h
  go_enter Tryz.func21, Tryz.ntmps21
  go_wp2_with fail
  go_loopw [4, 5] (fun x i wr => ∃ (j : Nat) (acc : List UInt8), x = .string ⟨acc.toArray⟩ ∧ i = .int .i64 (j : Int) ∧ j % 4 = 0 ∧ j ≤ n ∧ Hid (listA ((n - j) / 4) (l.drop j) acc = out) ∧ Hid (4 * acc.length ≤ 401 * j) ∧ Hid (Below w.heap.size w wr)) (fun _ i _ => n - (intOf i).toNat)
  case atStart => exact ⟨0, [], rfl, rfl, rfl, Nat.zero_le _, HOUT, Lib.hid (by simp), Lib.hid (Below.refl _ _)⟩
  case round =>
    obtain ⟨j, acc, rfl, rfl, hj4, hjn, HA, HLE, HBL⟩ := hrel
    by_cases hm0 : j = n
    · subst hm0
      have e : (acc, (0 : Int)) = out := by
        have := HA.out
        rw [Nat.sub_self] at this
        exact this
      have HE := Lib.hid e
      clear e
      go_wp2_with fail
      go_ret2
      exact ⟨by rw [← HE.out]; rfl, HBL.out⟩
    · have hj5 : j + 4 ≤ n := by have := HM.out; omega
      have hlt : (j : Int) < (n : Int) := by omega
      have hd : decide ((j : Int) < (n : Int)) = true := decide_eq_true hlt
      have hd2 : decide (j < n) = true := decide_eq_true (by omega)
      have hw4 : IntKind.i64.wrap ((j : Int) + 4) = (j : Int) + 4 := by rw [IntKind.wrap_i64]; have := HNN.out; omega
      obtain ⟨l', hl'⟩ : ∃ l', l.drop j = l' := ⟨_, rfl⟩
      have hrd := rdB_take (rdB_cut HR.out j hjn HC.out) 4 (by omega)
      have hdd : l.drop (j + 4) = l'.drop 4 := by rw [← hl', List.drop_drop]
      rw [hl'] at hrd
      have hx := w4_lt l'
      have k1 := fun W => slice_mid W a j n c hj5 HC.out
      have k2 := fun W => sliceAt_mid W a j n c hj5 HC.out
      have HOF := Lib.hid (fun W (hb : Below w.heap.size w W) => rof_any (cutA a j c) 4 (c - j) ((l'.take 4).map UInt8.toNat) W (u8B_s _ ▸ hrd.below hb) (by
        intro b hb
        obtain ⟨q, -, rfl⟩ := List.mem_map.1 hb
        exact q.toNat_lt) (by decide))
      have hof : ofB ((l'.take 4).map UInt8.toNat) = w4 l' := rfl
      rw [hof] at HOF
      obtain ⟨x, hxx⟩ : ∃ x, w4 l' = x := ⟨_, rfl⟩
      rw [hxx] at HOF hx
      have HDE := Lib.hid (fun W => rdecode_any x (decN x) hx (decN_spec x) W)
      have hok := insD_ok x hx
      have hst : listA ((n - j) / 4) l' acc = if decN x = 0 then ([], 40) else listA ((n - (j + 4)) / 4) (l'.drop 4) (acc ++ lineT (decN x) (insD x (decN x))) := by
        obtain ⟨q, hq⟩ : ∃ q, (n - j) / 4 = q + 1 := ⟨(n - j) / 4 - 1, by omega⟩
        rw [hq, show (n - (j + 4)) / 4 = q by omega]
        show (if decN (w4 l') = 0 then _ else _) = _
        rw [hxx]
      have hA := HA.out
      rw [hl'] at hA
      rw [hA] at hst
      have hwr : IntKind.u32.wrap (x : Int) = (x : Int) := by rw [IntKind.wrap_u32]; omega
      obtain ⟨r, hr⟩ : ∃ r, decN x = r := ⟨_, rfl⟩
      rw [hr] at HDE hok hst
      have HDD := Lib.hid hdd
      clear hof hrd hA hl' hdd
      by_cases hr0 : r = 0
      · subst hr0
        rw [if_pos rfl] at hst
        have HST := Lib.hid hst
        unfold decV decE at HDE
        rw [if_pos rfl, if_pos rfl] at HDE
        unfold instV at HDE
        clear hst hok hr hxx
        go_wp2_with (first
          | (go_at_call 25; refine (HOF.out _ HBL.out).mono ?_; rintro e w2 ⟨rfl, rfl⟩)
          | (go_at_call 55; refine (HDE.out _).mono ?_; rintro e w3 ⟨rfl, hb⟩; have HB3 := Lib.hid (HBL.out.trans (hb.mono HBL.out.size)); clear hb))
        go_ret2
        exact ⟨by rw [HST.out]; rfl, bAlloc HB3.out _⟩
      · rw [if_neg hr0] at hst
        have hok := hok hr0
        have HST := Lib.hid hst
        unfold decV decE at HDE
        rw [if_neg hr0, if_neg hr0] at HDE
        obtain ⟨y, hy⟩ : ∃ y, insD x r = y := ⟨_, rfl⟩
        have hv : instV r (rdN (kindZ (bareN r)) x) (rs1N (kindZ (bareN r)) x) (rs2N (kindZ (bareN r)) x) (immZ (kindZ (bareN r)) (shiftZ (bareN r)) x) = insV r y := by rw [← hy]; rfl
        rw [hv] at HDE
        rw [hy] at hok HST
        have HTX := Lib.hid (fun W => rtext_any (r : Int) y W hok)
        unfold RTextP at HTX
        have htl := textF_le r y hok
        have HLT : Hid (lineT r y = textF r y.rd y.rs1 y.rs2 y.n ++ [10]) := Lib.hid rfl
        obtain ⟨t, ht⟩ : ∃ t, textF r y.rd y.rs1 y.rs2 y.n = t := ⟨_, rfl⟩
        rw [ht] at HTX htl HLT
        have hlej := HLE.out
        have hnn := HNN.out
        have hadd1 := add_l acc t (acc ++ t) rfl (by omega) (by omega)
        have hadd2 := add_l (acc ++ t) [10] (acc ++ lineT r y) (by rw [HLT.out, List.append_assoc]) (by rw [List.length_append]; omega) (by decide)
        have hll : (lineT r y).length ≤ 401 := by rw [HLT.out, List.length_append]; simp; omega
        obtain ⟨ln, hln⟩ : ∃ ln, lineT r y = ln := ⟨_, rfl⟩
        rw [hln] at HST hadd2 hll
        have HLL := Lib.hid hll
        obtain ⟨at', hat⟩ : ∃ at', acc ++ t = at' := ⟨_, rfl⟩
        rw [hat] at hadd1 hadd2
        obtain ⟨al, hal⟩ : ∃ al, acc ++ ln = al := ⟨_, rfl⟩
        rw [hal] at hadd2 HST
        have HAL := Lib.hid hal
        obtain ⟨rd, rs1, rs2, im⟩ := y
        unfold insV at HDE
        simp only [] at HTX
        clear hst hok hr hxx hy hv htl HLT ht hln hll hat hal hlej hnn
        go_wp2_with (first
          | (go_at_call 25; refine (HOF.out _ HBL.out).mono ?_; rintro e w2 ⟨rfl, rfl⟩)
          | (go_at_call 55; refine (HDE.out _).mono ?_; rintro e w3 ⟨rfl, hb⟩; have HB3 := Lib.hid hb; clear hb)
          | (go_at_call 31; refine (HTX.out _).mono ?_; rintro e w4 ⟨rfl, hb⟩; have HB4 : Hid (Below wr.heap.size wr w4) := Lib.hid (HB3.out.trans (((bAlloc (Below.refl w3.heap.size w3) _).trans (hb.mono (Nat.le_of_lt (by simp)))).mono HB3.out.size)); clear hb))
        go_roundw
        case rel => exact ⟨j + 4, al, rfl, by go_num, by omega, by omega, Lib.hid (by rw [HDD.out]; exact HST.out.symm), Lib.hid (by rw [← HAL.out, List.length_append]; have := HLE.out; have := HLL.out; omega), Lib.hid (HBL.out.trans (HB4.out.mono HBL.out.size))⟩
        case measure => simp [intOf]; omega
theorem rlist_any (a : Option Addr) (l : List UInt8) (c : Nat) (w : World) (hr : Rd w a l.length (u8B l)) (hc : l.length ≤ c) (hn : l.length ≤ 8000) : Calls Tryz.prog 21 #[.slice a l.length c] w (ListPost (listX l) w) := by
  unfold listX
  by_cases h : l.length % 4 ≠ 0
  · rw [if_pos h]; exact rlist_odd a _ c w h hn
  · rw [if_neg h]; exact rlist_even a l _ c w hr hc (by omega) hn
set_option maxHeartbeats 1000000 in
theorem AsmLists_walk (a : Option Addr) (c : Nat) (l : List UInt8) (w : World) (hn : NA w) (hr : Rd w a l.length (u8B l)) (hc : l.length ≤ c) :
    Calls Tryz.prog 6 #[.slice a l.length c] w fun e w' => e = .returned (.bool true) ∧ Below w.heap.size w w' := by
  have HAW := Lib.hid (awake_any w hn)
  have HN := Lib.hid hn
  by_cases hl : 400 < l.length
  · obtain ⟨n, hnl⟩ : ∃ n, l.length = n := ⟨_, rfl⟩
    rw [hnl] at hl ⊢
    have hli : (400 : Int) < (n : Int) := by omega
    have hd : decide ((400 : Int) < (n : Int)) = true := decide_eq_true hli
    have hd2 : decide (400 < n) = true := decide_eq_true hl
    clear hn hr hc hnl
    go_enter Tryz.func6, Tryz.ntmps6
    go_wp2_with (go_at_call 12; refine HAW.out.mono ?_; rintro e w1 ⟨rfl, hb⟩; have HB1 := Lib.hid hb; clear hb)
    go_ret
    exact ⟨rfl, HB1.out⟩
  · have HL := Lib.hid (fun W (hb : Below w.heap.size w W) => list_any a l c W (hn.on hb) (hr.below hb) hc (by omega))
    have HRL := Lib.hid (fun W (hb : Below w.heap.size w W) => rlist_any a l c W (hr.below hb) hc (by omega))
    obtain ⟨⟨t, z⟩, hp⟩ : ∃ p, listX l = p := ⟨_, rfl⟩
    unfold ListPost at HL HRL
    rw [hp] at HL HRL
    simp only [] at HL HRL
    obtain ⟨n, hnl⟩ : ∃ n, l.length = n := ⟨_, rfl⟩
    rw [hnl] at HL HRL hl ⊢
    have hli : ¬ (400 : Int) < (n : Int) := by omega
    have hd : decide ((400 : Int) < (n : Int)) = false := decide_eq_false hli
    have hd2 : decide (400 < n) = false := decide_eq_false hl
    clear hn hr hc hnl hp
    go_enter Tryz.func6, Tryz.ntmps6
    go_wp2_with (first
      | (go_at_call 12; refine HAW.out.mono ?_; rintro e w1 ⟨rfl, hb⟩; have HB1 := Lib.hid hb; clear hb)
      | (go_at_call 20; refine (HL.out _ HB1.out).mono ?_; rintro e w2 ⟨rfl, hb⟩; have HB2 := Lib.hid (HB1.out.trans (hb.mono HB1.out.size)); clear hb)
      | (go_at_call 21; refine (HRL.out _ HB2.out).mono ?_; rintro e w3 ⟨rfl, hb⟩; have HB3 := Lib.hid (HB2.out.trans (hb.mono HB2.out.size)); clear hb))
    go_ret
    exact ⟨rfl, HB3.out⟩
end Go.Proofs.YtdpmihlmfephiaaGreatDoor

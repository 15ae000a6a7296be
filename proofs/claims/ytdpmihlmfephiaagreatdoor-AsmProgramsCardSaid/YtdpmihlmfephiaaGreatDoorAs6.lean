/- Merged: AsV AsW AsX. -/
import Derived.Test.YtdpmihlmfephiaaGreatDoorAs5
import Derived.Test.YtdpmihlmfephiaaGreatDoorIsaJ
import Derived.Handed
namespace Go.Proofs.YtdpmihlmfephiaaGreatDoor
set_option linter.unusedVariables false
set_option linter.unusedSimpArgs false
open Go.Joins Go.ChangeShapes Go.WideShapes Go.ChangeAt Go.RowKit Go.Deep

/-- a row with its first n elements cut off -/
def cutA (a : Option Addr) (n c : Nat) : Option Addr := if c = n then a else a.map fun x => x.add n
theorem u8B_get (l : List UInt8) (k : Nat) : (u8B l)[k]? = l[k]?.map fun b => Value.int .u8 (b.toNat : Int) := by unfold u8B; rw [List.getElem?_map]
theorem u8B_s (l : List UInt8) : u8B l = u8s (l.map UInt8.toNat) := by unfold u8B u8s; rw [List.map_map]; rfl
theorem rdB_cut {w : World} {a : Option Addr} {m c : Nat} {l : List UInt8} (h : Rd w a m (u8B l)) (n : Nat) (hn : n ≤ m) (hc : m ≤ c) : Rd w (cutA a n c) (m - n) (u8B (l.drop n)) := by
  have hl : l.length = m := by rw [← u8B_len]; exact h.1
  refine ⟨by rw [u8B_len, List.length_drop, hl], fun h0 => ?_⟩
  obtain ⟨b, off, e, hb, hq⟩ := h.2 (by omega)
  refine ⟨b, off + n, ?_, hb, fun k hk => ?_⟩
  · unfold cutA
    rw [if_neg (by omega), e]
    simp [Addr.add]
  · rw [Nat.add_assoc, hq (n + k) (by omega), u8B_get, u8B_get, List.getElem?_drop]
theorem rdB_take {w : World} {a : Option Addr} {m : Nat} {l : List UInt8} (h : Rd w a m (u8B l)) (n : Nat) (hn : n ≤ m) : Rd w a n (u8B (l.take n)) := by
  have hl : l.length = m := by rw [← u8B_len]; exact h.1
  refine ⟨by rw [u8B_len, List.length_take, hl]; omega, fun h0 => ?_⟩
  obtain ⟨b, off, e, hb, hq⟩ := h.2 (by omega)
  refine ⟨b, off, e, hb, fun k hk => ?_⟩
  rw [hq k (by omega), u8B_get, u8B_get]
  simp [List.getElem?_take, hk]
theorem slice_cutB (w : World) (a : Option Addr) (n m c : Nat) (hn : n ≤ m) (hc : m ≤ c) : (Instr.slice 32 (.slice a m c) (some (.int .i64 (n : Int))) none none).run Tryz.prog w = .ok (.slice (cutA a n c) (m - n) (c - n)) w := by
  have hu := Tryz.underlying32
  have ho : (sizeOf 5).run Tryz.prog w = .ok 1 w := by kernel_rfl
  have he : Tryz.prog.elem 32 = 5 := by kernel_rfl
  rw [run_slice_l w 32 a m c (by rw [he]; exact hu) .i64 (n : Int) (by omega) (by omega), he, ho]
  simp [Result.andThen, sliced, cutA]
theorem sliceAt_cutB (w : World) (a : Option Addr) (n m c : Nat) (hn : n ≤ m) (hc : m ≤ c) : (Instr.sliceAt 32 (.slice a m c) (some (.int .i64 (n : Int))) none none).run Tryz.prog w = .ok (.slice (cutA a n c) (m - n) (c - n)) w := by
  have hu := Tryz.underlying32
  have he : Tryz.prog.elem 32 = 5 := by kernel_rfl
  rw [run_sliceAt_slice w 32 _ _ _ _ (by rw [he]; exact hu)]
  exact slice_cutB w a n m c hn hc
theorem slice_headB (w : World) (a : Option Addr) (n m c : Nat) (hn : n ≤ m) (hc : m ≤ c) (h0 : 0 < c) : (Instr.slice 32 (.slice a m c) none (some (.int .i64 (n : Int))) none).run Tryz.prog w = .ok (.slice a n c) w := by
  have hu := Tryz.underlying32
  have ho : (sizeOf 5).run Tryz.prog w = .ok 1 w := by kernel_rfl
  have he : Tryz.prog.elem 32 = 5 := by kernel_rfl
  rw [run_slice_h w 32 a m c (by rw [he]; exact hu) .i64 (n : Int) (by omega) (by omega), he, ho]
  simp [Result.andThen, sliced, Addr.add]
theorem sliceAt_headB (w : World) (a : Option Addr) (n m c : Nat) (hn : n ≤ m) (hc : m ≤ c) (h0 : 0 < c) : (Instr.sliceAt 32 (.slice a m c) none (some (.int .i64 (n : Int))) none).run Tryz.prog w = .ok (.slice a n c) w := by
  have hu := Tryz.underlying32
  have he : Tryz.prog.elem 32 = 5 := by kernel_rfl
  rw [run_sliceAt_slice w 32 _ _ _ _ (by rw [he]; exact hu)]
  exact slice_headB w a n m c hn hc h0
/-! Numbers' instructions. -/
def decN (x : Nat) : Nat := match (List.range 82).findIdx? (fun (k : Nat) => hitB (bareN ((k : Int) + 1)) x) with
  | some k => k + 1
  | none => 0
theorem decN_spec (x : Nat) : DecP x (decN x) := by
  unfold decN
  cases h : (List.range 82).findIdx? (fun (k : Nat) => hitB (bareN ((k : Int) + 1)) x) with
  | none =>
    rw [List.findIdx?_eq_none_iff] at h
    exact .inl ⟨rfl, fun k hk => by simpa using h k (List.mem_range.2 hk)⟩
  | some k =>
    rw [List.findIdx?_eq_some_iff_getElem] at h
    obtain ⟨hk, hq, -⟩ := h
    simp at hk hq
    exact .inr ⟨by simp, by simp only []; omega, by rw [show (((k + 1 : Nat) : Int)) = (k : Int) + 1 by omega]; exact hq⟩
def insD (x r : Nat) : Ins := ⟨rdN (kindZ (bareN r)) x, rs1N (kindZ (bareN r)) x, rs2N (kindZ (bareN r)) x, immZ (kindZ (bareN r)) (shiftZ (bareN r)) x⟩
theorem insD_ok (x : Nat) (hx : x < 4294967296) (h0 : decN x ≠ 0) : okI (decN x : Int) (insD x (decN x)) = true := (again_enc x _ hx (decN_spec x) h0).1
def w4 (l : List UInt8) : Nat := ofB ((l.take 4).map UInt8.toNat)
theorem w4_lt (l : List UInt8) : w4 l < 4294967296 := by
  unfold w4 ofB
  have h4 : ((l.take 4).map UInt8.toNat).length ≤ 4 := by rw [List.length_map, List.length_take]; omega
  have hb : ∀ b ∈ (l.take 4).map UInt8.toNat, b < 256 := by
    intro b hb
    obtain ⟨c, -, rfl⟩ := List.mem_map.1 hb
    exact c.toNat_lt
  have h := ofN_lt (((l.take 4).map UInt8.toNat).take 8) fun b h => hb b (List.mem_of_mem_take h)
  refine Nat.lt_of_lt_of_le h (Nat.le_trans (Nat.pow_le_pow_right (by decide) (?_ : _ ≤ 32)) (by decide))
  rw [List.length_take]; omega
def lineT (r : Nat) (x : Ins) : List UInt8 := textF r x.rd x.rs1 x.rs2 x.n ++ [10]
def listA : Nat → List UInt8 → List UInt8 → List UInt8 × Int
  | 0, _, acc => (acc, 0)
  | k + 1, l, acc => if decN (w4 l) = 0 then ([], 40) else listA k (l.drop 4) (acc ++ lineT (decN (w4 l)) (insD (w4 l) (decN (w4 l))))
def listX (l : List UInt8) : List UInt8 × Int := if l.length % 4 ≠ 0 then ([], 1) else listA (l.length / 4) l []
theorem isB_below {B b : Nat} {bs : List Value} {W W' : World} (h : Lib.IsBuilder 76 5 B b bs W) (hb : Below W.heap.size W W') : Lib.IsBuilder 76 5 B b bs W' := by
  have k : ∀ p, Lib.BuilderAt 76 5 B b p bs W → Lib.BuilderAt 76 5 B b p bs W' := by
    rintro p ⟨h1, v, h2, h3, h4⟩
    exact ⟨h1, v, (hb.block _ (Array.getElem?_eq_some_iff.1 h2).1).trans h2, row_below h3 hb, h4⟩
  rcases h with h | h
  · exact .inl (k _ h)
  · exact .inr (k _ h)
def ListPost (P : List UInt8 × Int) (w : World) (e : Ending) (w' : World) : Prop := e = .returned (.tuple #[.string ⟨List.toArray P.1⟩, .int .i64 P.2]) ∧ Below w.heap.size w w'
theorem list_odd (a : Option Addr) (n c : Nat) (w : World) (h : n % 4 ≠ 0) (hn : n ≤ 8000) : Calls Tryz.prog 20 #[.slice a n c] w (ListPost ([], 1) w) := by
  have h4 : (n : Int) % 4 ≠ 0 := by omega
  have h5 : (n : Int).tmod 4 ≠ 0 := by rw [Int.tmod_eq_emod_of_nonneg (by omega)]; exact h4
  have d1 : ((n : Int).tmod 4 == 0) = false := by simpa using h5
  have d2 : ((n : Int).tmod 4 != 0) = true := by simpa using h5
  have d3 : ((n : Int) % 4 == 0) = false := by simpa using h4
  have d4 : ((n : Int) % 4 != 0) = true := by simpa using h4
  have hw : IntKind.i64.wrap ((n : Int).tmod 4) = (n : Int).tmod 4 := by rw [IntKind.wrap_i64, Int.tmod_eq_emod_of_nonneg (by omega)]; omega
  go_enter Tryz.func20, Tryz.ntmps20
  go_wp2_with fail
  go_ret2
  exact ⟨rfl, Below.refl _ _⟩
set_option maxRecDepth 100000 in
set_option maxHeartbeats 4000000 in
theorem list_even (a : Option Addr) (l : List UInt8) (n c : Nat) (w : World) (hNA : NA w) (hr : Rd w a n (u8B l)) (hc : n ≤ c) (h : n % 4 = 0) (hn : n ≤ 8000) : Calls Tryz.prog 20 #[.slice a n c] w (ListPost (listA (n / 4) l []) w) := by
  have h4 : (n : Int) % 4 = 0 := by omega
  have h5 : (n : Int).tmod 4 = 0 := by rw [Int.tmod_eq_emod_of_nonneg (by omega)]; exact h4
  have hw : IntKind.i64.wrap (0 : Int) = 0 := by decide
  have HN := Lib.hid hNA
  have HR := Lib.hid hr
  have HC := Lib.hid hc
  have HM := Lib.hid h
  have HNN := Lib.hid hn
  have HB0 := Lib.hid (Lib.fresh_isBuilder 76 5 w)
  have HBZ := Lib.hid (bAlloc (Below.refl w.heap.size w) (.cells #[.pointer none, .slice none 0 0] 76))
  obtain ⟨out, hout⟩ : ∃ out, listA (n / 4) l [] = out := ⟨_, rfl⟩
  rw [hout]
  have HOUT := Lib.hid hout
  clear hNA hr hc hout hn h
  go_enter Tryz.func20, Tryz.ntmps20
  go_wp2_with fail
  go_loopw [0] (fun x wr => ∃ (a' : Option Addr) (m c' : Nat) (l' acc : List UInt8), x = .slice a' m c' ∧ m % 4 = 0 ∧ m ≤ n ∧ Hid (m ≤ c' ∧ l'.length = m) ∧ Hid (Rd w a' m (u8B l')) ∧ Hid (listA (m / 4) l' acc = out) ∧ Hid (Lib.IsBuilder 76 5 w.heap.size w.heap.size (u8B acc) wr) ∧ Hid (4 * acc.length + 401 * m ≤ 401 * n) ∧ Hid (Below w.heap.size w wr)) (fun x _ => match x with
    | .slice _ m _ => m
    | _ => 0)
  case atStart => exact ⟨a, n, c, l, [], rfl, HM.out, Nat.le_refl _, Lib.hid ⟨HC.out, by rw [← u8B_len]; exact HR.out.1⟩, HR, HOUT, HB0, Lib.hid (by simp), HBZ⟩
  case round =>
    obtain ⟨a', m, c', l', acc, rfl, hm4, hmn, HL, HRD, HA, HBU, HLE, HBL⟩ := hrel
    by_cases hm0 : m = 0
    · subst hm0
      have HST := Lib.hid (Tryz.Builder_String_any w.heap.size w.heap.size acc wr HBU.out HBL.out.size)
      go_wp2_with (go_at_call 54; refine HST.out.mono ?_; rintro e w9 ⟨rfl, hb⟩; have HB9 := Lib.hid (HBL.out.trans hb); clear hb)
      go_ret2
      have e : (acc, (0 : Int)) = out := HA.out
      exact ⟨by rw [← e]; rfl, HB9.out⟩
    · have hpos : (0 : Int) < (m : Int) := by omega
      have hd : decide ((0 : Int) < (m : Int)) = true := decide_eq_true hpos
      have hd2 : decide (0 < m) = true := decide_eq_true (by omega)
      have hx := w4_lt l'
      have k1 : ∀ W, (Instr.slice 32 (.slice a' m c') none (some (.int .i64 4)) none).run Tryz.prog W = .ok (.slice a' 4 c') W := fun W => slice_headB W a' 4 m c' (by omega) HL.out.1 (by have := HL.out.1; omega)
      have k2 : ∀ W, (Instr.sliceAt 32 (.slice a' m c') none (some (.int .i64 4)) none).run Tryz.prog W = .ok (.slice a' 4 c') W := fun W => sliceAt_headB W a' 4 m c' (by omega) HL.out.1 (by have := HL.out.1; omega)
      have k3 : ∀ W, (Instr.slice 32 (.slice a' m c') (some (.int .i64 4)) none none).run Tryz.prog W = .ok (.slice (cutA a' 4 c') (m - 4) (c' - 4)) W := fun W => slice_cutB W a' 4 m c' (by omega) HL.out.1
      have k4 : ∀ W, (Instr.sliceAt 32 (.slice a' m c') (some (.int .i64 4)) none none).run Tryz.prog W = .ok (.slice (cutA a' 4 c') (m - 4) (c' - 4)) W := fun W => sliceAt_cutB W a' 4 m c' (by omega) HL.out.1
      have HOF := Lib.hid (fun W (hb : Below w.heap.size w W) => wof_any a' 4 c' ((l'.take 4).map UInt8.toNat) W (u8B_s _ ▸ (rdB_take HRD.out 4 (by omega)).below hb) (by
        intro b hb
        obtain ⟨q, -, rfl⟩ := List.mem_map.1 hb
        exact q.toNat_lt) (by decide))
      have hof : ofB ((l'.take 4).map UInt8.toNat) = w4 l' := rfl
      rw [hof] at HOF
      obtain ⟨x, hxx⟩ : ∃ x, w4 l' = x := ⟨_, rfl⟩
      rw [hxx] at HOF hx
      have HDE := Lib.hid (fun W (hb : Below w.heap.size w W) => decode_any x (decN x) hx (decN_spec x) W (HN.out.on hb).nt)
      have hok := insD_ok x hx
      have hst : listA (m / 4) l' acc = if decN x = 0 then ([], 40) else listA ((m - 4) / 4) (l'.drop 4) (acc ++ lineT (decN x) (insD x (decN x))) := by
        obtain ⟨q, hq⟩ : ∃ q, m / 4 = q + 1 := ⟨m / 4 - 1, by omega⟩
        rw [hq, show (m - 4) / 4 = q by omega]
        show (if decN (w4 l') = 0 then _ else _) = _
        rw [hxx]
      rw [HA.out] at hst
      have hwr : IntKind.u32.wrap (x : Int) = (x : Int) := by rw [IntKind.wrap_u32]; omega
      obtain ⟨r, hr⟩ : ∃ r, decN x = r := ⟨_, rfl⟩
      rw [hr] at HDE hok hst
      clear hof
      by_cases hr0 : r = 0
      · subst hr0
        rw [if_pos rfl] at hst
        have HST := Lib.hid hst
        unfold decV decE at HDE
        rw [if_pos rfl, if_pos rfl] at HDE
        unfold instV at HDE
        clear hst hok hr hxx
        go_wp2_with (first
          | (go_at_call 52; refine (HOF.out _ HBL.out).mono ?_; rintro e w2 ⟨rfl, rfl⟩)
          | (go_at_call 51; refine (HDE.out _ HBL.out).mono ?_; rintro e w3 ⟨rfl, hb⟩; have HB3 := Lib.hid (HBL.out.trans (hb.mono HBL.out.size)); clear hb))
        go_ret2
        exact ⟨by rw [HST.out]; rfl, bAlloc HB3.out _⟩
      · rw [if_neg hr0] at hst
        have hok := hok hr0
        have HST := Lib.hid hst
        unfold decV decE at HDE
        rw [if_neg hr0, if_neg hr0] at HDE
        obtain ⟨y, hy⟩ : ∃ y, insD x r = y := ⟨_, rfl⟩
        have hv : instV r (rdN (kindZ (bareN r)) x) (rs1N (kindZ (bareN r)) x) (rs2N (kindZ (bareN r)) x) (immZ (kindZ (bareN r)) (shiftZ (bareN r)) x) = insV r y := by rw [← hy]; rfl
        rw [hv] at HDE
        rw [hy] at hok HST
        have hil := immB_in (okI_parts hok).2.2.2
        have HPR := Lib.hid (fun W (hb : Below w.heap.size w W) => print_any (r : Int) y W (HN.out.on hb) ⟨by omega, by omega⟩)
        unfold priT priE at HPR
        simp only [if_pos hok] at HPR
        have htl := textF_le r y hok
        have HLT : Hid (lineT r y = textF r y.rd y.rs1 y.rs2 y.n ++ [10]) := Lib.hid rfl
        obtain ⟨t, ht⟩ : ∃ t, textF r y.rd y.rs1 y.rs2 y.n = t := ⟨_, rfl⟩
        rw [ht] at HPR htl HLT
        have hadd := add_l t [10] (lineT r y) HLT.out.symm (by omega) (by decide)
        have hll : (lineT r y).length ≤ 401 := by rw [HLT.out, List.length_append]; simp; omega
        have HWR := Lib.hid (fun W (hb : Below wr.heap.size wr W) => write_any w.heap.size w.heap.size acc (lineT r y) W (isB_below HBU.out hb) (by have := HLE.out; have := HNN.out; omega) (Nat.le_trans HBL.out.size hb.size))
        obtain ⟨ln, hln⟩ : ∃ ln, lineT r y = ln := ⟨_, rfl⟩
        rw [hln] at HST hadd hll HWR
        have HLL := Lib.hid hll
        obtain ⟨rd, rs1, rs2, im⟩ := y
        unfold insV at HDE
        simp only [] at HPR
        clear hst hok hr hxx hy hv hil htl HLT ht hln hll
        go_wp2_with (first
          | (go_at_call 52; refine (HOF.out _ HBL.out).mono ?_; rintro e w2 ⟨rfl, rfl⟩)
          | (go_at_call 51; refine (HDE.out _ HBL.out).mono ?_; rintro e w3 ⟨rfl, hb⟩; have HB3 := Lib.hid hb; clear hb)
          | (go_at_call 13; refine (HPR.out _ ((HBL.out.trans (HB3.out.mono HBL.out.size)).trans ((bAlloc (Below.refl w3.heap.size w3) _).mono (Nat.le_trans HBL.out.size HB3.out.size)))).mono ?_; rintro e w4 ⟨rfl, hb⟩; have HB4 : Hid (Below wr.heap.size wr w4) := Lib.hid (HB3.out.trans (((bAlloc (Below.refl w3.heap.size w3) _).trans (hb.mono (Nat.le_of_lt (by simp)))).mono HB3.out.size)); clear hb)
          | (go_at_call 53; refine (HWR.out _ HB4.out).mono ?_; rintro e w5 ⟨rfl, hbu, hb⟩; have HBU5 := Lib.hid hbu; have HB5 := Lib.hid ((HBL.out.trans (HB4.out.mono HBL.out.size)).trans hb); clear hbu hb))
        go_roundw
        case rel => exact ⟨cutA a' 4 c', m - 4, c' - 4, l'.drop 4, acc ++ ln, rfl, by omega, by omega, Lib.hid ⟨by have := HL.out.1; omega, by rw [List.length_drop, HL.out.2]⟩, Lib.hid (rdB_cut HRD.out 4 (by omega) HL.out.1), Lib.hid HST.out.symm, HBU5, Lib.hid (by rw [List.length_append]; have := HLE.out; have := HLL.out; omega), HB5⟩
        case measure => simp only []; omega
theorem list_any (a : Option Addr) (l : List UInt8) (c : Nat) (w : World) (hNA : NA w) (hr : Rd w a l.length (u8B l)) (hc : l.length ≤ c) (hn : l.length ≤ 8000) : Calls Tryz.prog 20 #[.slice a l.length c] w (ListPost (listX l) w) := by
  unfold listX
  by_cases h : l.length % 4 ≠ 0
  · rw [if_pos h]; exact list_odd a _ c w h hn
  · rw [if_neg h]; exact list_even a l _ c w hNA hr hc (by omega) hn
end Go.Proofs.YtdpmihlmfephiaaGreatDoor

namespace Go.Proofs.YtdpmihlmfephiaaGreatDoor
set_option linter.unusedVariables false
set_option linter.unusedSimpArgs false
open Go.Joins Go.ChangeShapes Go.WideShapes Go.ChangeAt Go.RowKit Go.Deep

theorem aw1 : parF [108, 100, 32, 99, 50, 44, 32, 45, 56, 40, 99, 51, 41] = some (((findF [108, 100] : Nat) : Int), (⟨2, 3, 0, -8⟩ : Ins)) := by decide +kernel
theorem aw2 : parF [97, 100, 100, 105, 32, 99, 49, 44, 99, 48, 44, 53] = none := by decide +kernel
theorem aw3 : parF [97, 100, 100, 105, 32, 99, 49, 44, 32, 99, 48, 44, 32, 48, 53] = none := by decide +kernel
theorem aw4 : parF [97, 100, 100, 32, 99, 51, 50, 44, 32, 99, 48, 44, 32, 99, 48] = none := by decide +kernel
theorem aw5 : parF [101, 99, 97, 108, 108, 32] = none := by decide +kernel
def awC : List UInt8 := le4 (encB (bareN 29) 1 1 0 (-1)) ++ le4 (encB (bareN (findF [98, 110, 101])) 0 1 0 (-4))
theorem aw6 : progX [120, 58, 32, 10, 97, 100, 100, 105, 32, 99, 49, 44, 32, 99, 49, 44, 32, 45, 49, 32, 59, 32, 108, 101, 115, 115, 10, 98, 110, 101, 32, 99, 49, 44, 32, 99, 48, 44, 32, 120] = (awC, 0, 0) := by decide +kernel
theorem aw7 : listX awC = ([97, 100, 100, 105, 32, 99, 49, 44, 32, 99, 49, 44, 32, 45, 49, 10, 98, 110, 101, 32, 99, 49, 44, 32, 99, 48, 44, 32, 45, 52, 10], 0) := by decide +kernel
theorem aw8 : progX [120, 58, 10, 120, 58] = ([], 2, 51) := by decide +kernel
theorem aw9 : progX [99, 106, 97, 108, 32, 99, 48, 44, 32, 121] = ([], 1, 51) := by decide +kernel
theorem wrong_any (s c : List UInt8) (n : Nat) (e : Int) (w : World) (hn : NA w) (hl : s.length < 1000000) (hp : progX s = (c, n, e)) (h0 : 0 ≤ e) (h1 : e ≤ 1000) (h2 : n ≤ 100000) :
    Calls Tryz.prog 26 #[.string ⟨s.toArray⟩] w fun e' w' => e' = .returned (.int .i64 (100 * e + n)) ∧ Below w.heap.size w w' := by
  have H := Lib.hid (program_any s w hn hl)
  rw [hp] at H
  unfold ProPost at H
  have k1 : IntKind.i64.wrap (100 * e) = 100 * e := by rw [IntKind.wrap_i64]; omega
  have k2 : IntKind.i64.wrap (100 * e + (n : Int)) = 100 * e + (n : Int) := by rw [IntKind.wrap_i64]; omega
  clear hn hl hp
  go_enter Tryz.func26, Tryz.ntmps26
  go_wp2_with (go_at_call 17; refine H.out.mono ?_; rintro e' w1 ⟨a, c, rfl, -, -, hb⟩; have HB := Lib.hid hb; clear hb)
  go_ret
  exact ⟨rfl, HB.out⟩
theorem prog_awake (w : World) (hn : NA w) : Calls Tryz.prog 17 #[.string ⟨#[120, 58, 32, 10, 97, 100, 100, 105, 32, 99, 49, 44, 32, 99, 49, 44, 32, 45, 49, 32, 59, 32, 108, 101, 115, 115, 10, 98, 110, 101, 32, 99, 49, 44, 32, 99, 48, 44, 32, 120]⟩] w fun e w' => ∃ a c, e = .returned (.tuple #[.slice a 8 c, .int .i64 0, .int .i64 0]) ∧ Rd w' a 8 (u8B awC) ∧ 8 ≤ c ∧ Below w.heap.size w w' := by
  have h := program_any [120, 58, 32, 10, 97, 100, 100, 105, 32, 99, 49, 44, 32, 99, 49, 44, 32, 45, 49, 32, 59, 32, 108, 101, 115, 115, 10, 98, 110, 101, 32, 99, 49, 44, 32, 99, 48, 44, 32, 120] w hn (by decide)
  rw [aw6] at h
  exact h
theorem list_awake (w : World) (hn : NA w) (a : Option Addr) (c : Nat) (hr : Rd w a 8 (u8B awC)) (hc : 8 ≤ c) : Calls Tryz.prog 20 #[.slice a 8 c] w fun e w' => e = .returned (.tuple #[.string ⟨#[97, 100, 100, 105, 32, 99, 49, 44, 32, 99, 49, 44, 32, 45, 49, 10, 98, 110, 101, 32, 99, 49, 44, 32, 99, 48, 44, 32, 45, 52, 10]⟩, .int .i64 0]) ∧ Below w.heap.size w w' := by
  have h := list_any a awC c w hn hr hc (by decide)
  rw [aw7] at h
  exact h
theorem parse_aw1 (w : World) (hn : NA w) : ∃ op : Int, Calls Tryz.prog 15 #[.string ⟨#[108, 100, 32, 99, 50, 44, 32, 45, 56, 40, 99, 51, 41]⟩] w fun e w' => e = .returned (.tuple #[.agg #[.int .i64 op, .int .i64 2, .int .i64 3, .int .i64 0, .int .i64 (-8)], .int .i64 0]) ∧ Below w.heap.size w w' := by
  have h := parse_any [108, 100, 32, 99, 50, 44, 32, 45, 56, 40, 99, 51, 41] w hn (by decide)
  rw [(par_some aw1).1, (par_some aw1).2] at h
  exact ⟨_, h⟩
theorem parse_aw2 (w : World) (hn : NA w) : Calls Tryz.prog 15 #[.string ⟨#[97, 100, 100, 105, 32, 99, 49, 44, 99, 48, 44, 53]⟩] w fun e w' => e = .returned (.tuple #[.agg #[.int .i64 0, .int .i64 0, .int .i64 0, .int .i64 0, .int .i64 0], .int .i64 50]) ∧ Below w.heap.size w w' := by
  have h := parse_any [97, 100, 100, 105, 32, 99, 49, 44, 99, 48, 44, 53] w hn (by decide)
  rw [(par_none aw2).1, (par_none aw2).2] at h
  exact h
theorem parse_aw3 (w : World) (hn : NA w) : Calls Tryz.prog 15 #[.string ⟨#[97, 100, 100, 105, 32, 99, 49, 44, 32, 99, 48, 44, 32, 48, 53]⟩] w fun e w' => e = .returned (.tuple #[.agg #[.int .i64 0, .int .i64 0, .int .i64 0, .int .i64 0, .int .i64 0], .int .i64 50]) ∧ Below w.heap.size w w' := by
  have h := parse_any [97, 100, 100, 105, 32, 99, 49, 44, 32, 99, 48, 44, 32, 48, 53] w hn (by decide)
  rw [(par_none aw3).1, (par_none aw3).2] at h
  exact h
theorem parse_aw4 (w : World) (hn : NA w) : Calls Tryz.prog 15 #[.string ⟨#[97, 100, 100, 32, 99, 51, 50, 44, 32, 99, 48, 44, 32, 99, 48]⟩] w fun e w' => e = .returned (.tuple #[.agg #[.int .i64 0, .int .i64 0, .int .i64 0, .int .i64 0, .int .i64 0], .int .i64 50]) ∧ Below w.heap.size w w' := by
  have h := parse_any [97, 100, 100, 32, 99, 51, 50, 44, 32, 99, 48, 44, 32, 99, 48] w hn (by decide)
  rw [(par_none aw4).1, (par_none aw4).2] at h
  exact h
theorem parse_aw5 (w : World) (hn : NA w) : Calls Tryz.prog 15 #[.string ⟨#[101, 99, 97, 108, 108, 32]⟩] w fun e w' => e = .returned (.tuple #[.agg #[.int .i64 0, .int .i64 0, .int .i64 0, .int .i64 0, .int .i64 0], .int .i64 50]) ∧ Below w.heap.size w w' := by
  have h := parse_any [101, 99, 97, 108, 108, 32] w hn (by decide)
  rw [(par_none aw5).1, (par_none aw5).2] at h
  exact h
theorem wrong1 (w : World) (hn : NA w) : Calls Tryz.prog 26 #[.string ⟨#[120, 58, 10, 120, 58]⟩] w fun e w' => e = .returned (.int .i64 5102) ∧ Below w.heap.size w w' := wrong_any [120, 58, 10, 120, 58] _ 2 51 w hn (by decide) aw8 (by decide) (by decide) (by decide)
theorem wrong2 (w : World) (hn : NA w) : Calls Tryz.prog 26 #[.string ⟨#[99, 106, 97, 108, 32, 99, 48, 44, 32, 121]⟩] w fun e w' => e = .returned (.int .i64 5101) ∧ Below w.heap.size w w' := wrong_any [99, 106, 97, 108, 32, 99, 48, 44, 32, 121] _ 1 51 w hn (by decide) aw9 (by decide) (by decide) (by decide)
set_option maxRecDepth 100000 in
set_option maxHeartbeats 2000000 in
theorem awake_any (w : World) (hn : NA w) : Calls Tryz.prog 12 #[] w fun e w' => e = .returned (.bool true) ∧ Below w.heap.size w w' := by
  obtain ⟨op, hp1⟩ := parse_aw1 w hn
  have HP1 := Lib.hid hp1
  have HP2 := Lib.hid parse_aw2
  have HP3 := Lib.hid parse_aw3
  have HP4 := Lib.hid parse_aw4
  have HP5 := Lib.hid parse_aw5
  have HPG := Lib.hid prog_awake
  have HLS := Lib.hid list_awake
  have HW1 := Lib.hid wrong1
  have HW2 := Lib.hid wrong2
  have HN0 := Lib.hid hn
  clear hp1 hn
  go_enter Tryz.func12, Tryz.ntmps12
  go_wp2_with (first
    | (go_at_call 15; refine (HP5.out _ (HN4.out.alloc _)).mono ?_; rintro e w5 ⟨rfl, hb⟩; have hb9 := (bAlloc (Below.refl w4.heap.size w4) _).trans (hb.mono (Nat.le_of_lt (by simp))); have HB5 := Lib.hid (HB4.out.trans (hb9.mono HB4.out.size)); have HN5 := Lib.hid (HN4.out.on hb9); have HX5 := Lib.hid (boxN_below HX4.out hb9); clear hb hb9)
    | (go_at_call 15; refine (HP4.out _ (HN3.out.alloc _)).mono ?_; rintro e w4 ⟨rfl, hb⟩; have hb9 := (bAlloc (Below.refl w3.heap.size w3) _).trans (hb.mono (Nat.le_of_lt (by simp))); have HB4 := Lib.hid (HB3.out.trans (hb9.mono HB3.out.size)); have HN4 := Lib.hid (HN3.out.on hb9); have HX4 := Lib.hid (boxN_below HX3.out hb9); clear hb hb9)
    | (go_at_call 15; refine (HP3.out _ (HN2.out.alloc _)).mono ?_; rintro e w3 ⟨rfl, hb⟩; have hb9 := (bAlloc (Below.refl w2.heap.size w2) _).trans (hb.mono (Nat.le_of_lt (by simp))); have HB3 := Lib.hid (HB2.out.trans (hb9.mono HB2.out.size)); have HN3 := Lib.hid (HN2.out.on hb9); have HX3 := Lib.hid (boxN_below HX2.out hb9); clear hb hb9)
    | (go_at_call 15; refine (HP2.out _ (HN1.out.alloc _)).mono ?_; rintro e w2 ⟨rfl, hb⟩; have hb9 := (bAlloc (Below.refl w1.heap.size w1) _).trans (hb.mono (Nat.le_of_lt (by simp))); have HB2 := Lib.hid (HB1.out.trans (hb9.mono HB1.out.size)); have HN2 := Lib.hid (HN1.out.on hb9); have HX2 := Lib.hid (HX1.out.below hb (by simp)); clear hb hb9)
    | (go_at_call 15; refine HP1.out.mono ?_; rintro e w1 ⟨rfl, hb⟩; have HB1 := Lib.hid hb; have HN1 := Lib.hid (HN0.out.on hb); have HX1 := Lib.hid (BoxN.new w1 #[.int .i64 op, .int .i64 2, .int .i64 3, .int .i64 0, .int .i64 (-8)] 23); have HZ1 : Hid (w1.heap.size < w1.heap.size + 1) := Lib.hid (Nat.lt_succ_self _); clear hb)
    | (go_at_call 17; refine (HPG.out _ (HN5.out.alloc _)).mono ?_; rintro e w6 ⟨a, c, rfl, hrd, hc, hb⟩; have hb9 := (bAlloc (Below.refl w5.heap.size w5) _).trans (hb.mono (Nat.le_of_lt (by simp))); have HB6 := Lib.hid (HB5.out.trans (hb9.mono HB5.out.size)); have HN6 := Lib.hid (HN5.out.on hb9); have HX6 := Lib.hid (boxN_below HX5.out hb9); have HRD := Lib.hid hrd; have HC := Lib.hid hc; clear hb hb9 hrd hc)
    | (go_at_call 20; refine (HLS.out _ HN6.out _ _ HRD.out HC.out).mono ?_; rintro e w7 ⟨rfl, hb⟩; have HB7 := Lib.hid (HB6.out.trans (hb.mono HB6.out.size)); have HN7 := Lib.hid (HN6.out.on hb); have HX7 := Lib.hid (boxN_below HX6.out hb); clear hb)
    | (go_at_call 26; refine (HW2.out _ HN8.out).mono ?_; rintro e w9 ⟨rfl, hb⟩; have HB9 := Lib.hid (HB8.out.trans (hb.mono HB8.out.size)); have hx9 := boxN_below HX8.out hb; obtain ⟨⟨q0, q1, q2, q3, q4⟩, -⟩ := box5 hx9; clear hb hx9)
    | (go_at_call 26; refine (HW1.out _ HN7.out).mono ?_; rintro e w8 ⟨rfl, hb⟩; have HB8 := Lib.hid (HB7.out.trans (hb.mono HB7.out.size)); have HN8 := Lib.hid (HN7.out.on hb); have HX8 := Lib.hid (boxN_below HX7.out hb); clear hb))
  go_ret
  exact ⟨rfl, HB9.out⟩
end Go.Proofs.YtdpmihlmfephiaaGreatDoor

namespace Go.Proofs.YtdpmihlmfephiaaGreatDoor
set_option linter.unusedVariables false
set_option linter.unusedSimpArgs false
open Go.Joins Go.ChangeShapes Go.WideShapes Go.ChangeAt Go.RowKit Go.Deep

theorem handed_shaped {H : Type} {enc : TypeId × Value → H} {a : Assume} {C : Checked} {os : Os} {f : FuncId} {fn : Func} {s : ChangeSpec} {conds : List PathCond} {apart fresh handsOn again : Bool} {X : World → Array Value → Prop}
    (hX : ∀ (w w' : World) (args : Array Value), w.heap = w'.heap → X w args → X w' args)
    (own : ownKnob C.prog.godebug = none) (started : os.Started) (noInit : C.prog.inits.idxOf? f = none) (hfn : C.prog.funcs[f]? = some fn)
    (witness : ∃ (w : World) (tape : Tape) (i : Input), w.os = os ∧ (w.forCall tape i).Shaped C.prog ∧ i.vars = [] ∧ Input.okWide C.prog (w.forCall tape i) .any w.heap.size f i ∧
      ((s.pre enc C.prog fn conds apart (w.forCall tape i).memory i.args ∧ X (w.forCall tape i).memory i.args) ∧ sizedMet enc C.prog fn (OpenSpec.ofChange s) apart (w.forCall tape i).memory i.args) ∧ a.holds C.prog (lone (Frame.enter C.prog f i.args .normal) [] (w.forCall tape i)))
    (contract : ∀ (W : World) (base : Nat) (args : Array Value) (ds gs : List (DataW H)) (before : List MemPlace), W.ShapedOpen C.prog →
      (∀ (j : Nat) t v, fn.params[j]? = some t → args[j]? = some v → Value.okWide C.prog W .any base t v) →
      DataW.Whole enc C.prog fn.params.toList s.vars apart W args.toList ds gs before →
      conds.all (PathCond.test C.prog ⟨fn.params.toList, ds, s.plain.varTypes C.prog, gs⟩) = true →
      (DataW.weightsEach C.prog (fn.params.toList ++ s.plain.varTypes C.prog) (ds ++ gs)).all (· ≤ reachBytes) = true → X W args →
      a.holds C.prog (lone (Frame.enter C.prog f args .normal) [] W) →
      Calls C.prog f args W fun e W' => ∃ v, e = .returned v ∧ s.post enc C.prog fn apart fresh handsOn again W args v W') :
    ReturnsInHanded a C os f .any (fun w args => (s.pre enc C.prog fn conds apart w args ∧ X w args) ∧ sizedMet enc C.prog fn (OpenSpec.ofChange s) apart w args) (s.post enc C.prog fn apart fresh handsOn again) := by
  refine returnsInHanded_of_calls own started noInit witness ?_
  intro w tape i _ hsh _ hok hpre hholds
  obtain ⟨_, _, _, fn', hfn', _, _, _, _, hval⟩ := hok
  have e : fn' = fn := Option.some.inj (hfn'.symm.trans hfn)
  subst e
  obtain ⟨⟨⟨ds, gs, before, hw, hc⟩, hx⟩, hz⟩ := hpre
  have hw' := DataW.Whole.of_heap (w' := w.forCall tape i) (by rfl) hw
  refine (contract (w.forCall tape i) w.heap.size i.args ds gs before hsh hval hw' hc (hz.weights hw) (hX _ _ _ (by rfl) hx) hholds).mono fun e W' ⟨v, he, hp⟩ => ?_
  subst he
  exact ChangeSpec.post_blind hp
end Go.Proofs.YtdpmihlmfephiaaGreatDoor


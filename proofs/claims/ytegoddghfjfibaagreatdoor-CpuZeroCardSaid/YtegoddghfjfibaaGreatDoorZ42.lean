/- IsaW -/
import Derived.Test.YtegoddghfjfibaaGreatDoorZ39
import Derived.Test.YtegoddghfjfibaaGreatDoorZ41
import Derived.Test.YtegoddghfjfibaaGreatDoorZ13
namespace Go.Proofs.YtegoddghfjfibaaGreatDoor.Is
set_option linter.unusedVariables false
set_option maxRecDepth 100000
set_option linter.unusedSimpArgs false
open Go.Joins Go.ChangeShapes Go.WideShapes Go.ChangeAt Go.RowKit

/-! What the document's table says of every operation's own number. -/
def fC (op : Int) : Nat := (opR op).2.2.1.toNat
def fF (op : Int) : Nat := (opR op).2.2.2.1.toNat
def fS (op : Int) : Nat := (opR op).2.2.2.2.1.toNat
def fH (op : Int) : Int := (opR op).2.2.2.2.2
def ownD (k sh : Int) (c f3 f7 : Nat) : Nat :=
  if k = 1 then c + f3 * 4096 + f7 * 33554432
  else if k = 2 ∨ k = 3 then (if sh = 6 then c + f3 * 4096 + f7 * 67108864 else if sh = 5 then c + f3 * 4096 + f7 * 33554432 else c + f3 * 4096)
  else if k = 4 ∨ k = 5 then c + f3 * 4096
  else if k = 6 ∨ k = 7 then c
  else if k = 8 then c + f3 * 4096 + f7 * 1048576 + 127 * 33554432
  else if k = 10 then c + f3 * 4096 + 128 + f7 * 33554432
  else c + f3 * 4096 + f7 * 1048576
def tabChk (op : Int) : Bool :=
  (opR op).2.2.1 == (fC op : Int) && (opR op).2.2.2.1 == (fF op : Int) && (opR op).2.2.2.2.1 == (fS op : Int) && fH op == shiftZ (bareN op) &&
  decide (fC op < 128) && decide (fF op < 8) && decide (fS op < 128) && decide (fH op = 6 → fS op < 64) && decide (kindZ (bareN op) = 8 → fS op < 32) &&
  decide (ownD (kindZ (bareN op)) (fH op) (fC op) (fF op) (fS op) = bareN op) && decide (kindZ (bareN op) = 6 ∨ kindZ (bareN op) = 7 → fF op = 0)
theorem tab_all : ((List.range 82).all fun i => tabChk ((i : Int) + 1)) = true := by decide +kernel
theorem tab_at (op : Int) (h1 : 1 ≤ op) (h2 : op ≤ 82) : tabChk op = true := by
  have h := tab_all
  rw [List.all_eq_true] at h
  have := h (op.toNat - 1) (List.mem_range.mpr (by omega))
  rwa [show (((op.toNat - 1 : Nat) : Int) + 1) = op by omega] at this
theorem fin_c1 (op n : Int) (s : List UInt8) (sh : Int) (b c f3 f7 rd rs1 rs2 u : Nat) (hb : b < 4294967296) (hD : c + f3 * 4096 + f7 * 33554432 = b) (hc : c < 128) (hf : f3 < 8) (h7 : f7 < 128) (g0 : b / 128 % 32 = 0) (g1 : b / 32768 % 32 = 0) (g2 : b / 1048576 % 32 = 0) (hr : regsB 1 rd rs1 rs2 = true) (hn : n = 0) (hu : n % 4294967296 = (u : Int)) 
    (hR : ∀ w, Calls Tryz.prog 72 #[instV op rd rs1 rs2 n] w fun e w' => e = .returned (.bool true) ∧ Below w.heap.size w w')
    (hO : ∀ w, Calls Tryz.prog 25 #[.int .i64 op] w fun e w' => e = .returned (operV s 1 c f3 f7 sh) ∧ Below w.heap.size w w') (w : World) :
    Calls Tryz.prog 33 #[instV op rd rs1 rs2 n] w fun e w' => e = .returned (.tuple #[.int .u32 ((encN 0 1 b rd rs1 rs2 u : Nat) : Int), .int .i64 0]) ∧ Below w.heap.size w w' := by
  obtain ⟨e, r1, r2, r3⟩ := c1_sum b rd rs1 rs2 u hb g0 g1 g2 hr (by omega)
  have y0 := lay_at (0) 0 7 0 c (c : Int) (by omega) (by decide) (by decide) (by omega)
  have y1 := lay_at (0 + c * 2 ^ 0) 0 3 12 f3 (f3 : Int) (by omega) (by decide) (by decide) (by omega)
  have y2 := lay_at (0 + c * 2 ^ 0 + f3 * 2 ^ 12) 0 5 7 rd (rd : Int) (by omega) (by decide) (by decide) (by omega)
  have y3 := lay_at (0 + c * 2 ^ 0 + f3 * 2 ^ 12 + rd * 2 ^ 7) 0 5 15 rs1 (rs1 : Int) (by omega) (by decide) (by decide) (by omega)
  have y4 := lay_at (0 + c * 2 ^ 0 + f3 * 2 ^ 12 + rd * 2 ^ 7 + rs1 * 2 ^ 15) 0 5 20 rs2 (rs2 : Int) (by omega) (by decide) (by decide) (by omega)
  have y5 := lay_at (0 + c * 2 ^ 0 + f3 * 2 ^ 12 + rd * 2 ^ 7 + rs1 * 2 ^ 15 + rs2 * 2 ^ 20) 0 7 25 f7 (f7 : Int) (by omega) (by decide) (by decide) (by omega)
  have hM : 0 + c * 2 ^ 0 + f3 * 2 ^ 12 + rd * 2 ^ 7 + rs1 * 2 ^ 15 + rs2 * 2 ^ 20 + f7 * 2 ^ 25 = encN 0 1 b rd rs1 rs2 u := by rw [e]; omega
  have hl : 0 + c * 2 ^ 0 + f3 * 2 ^ 12 + rd * 2 ^ 7 + rs1 * 2 ^ 15 + rs2 * 2 ^ 20 + f7 * 2 ^ 25 < 4294967296 := by omega
  have h := renc1 op rd rs1 rs2 n s c f3 f7 sh _ _ _ _ _ _ y0 y1 y2 y3 y4 (rest1 s c f3 f7 sh n _ _ y5) hl hR hO w
  rw [hM] at h
  exact h
theorem fin_c2k2 (op n : Int) (s : List UInt8) (sh : Int) (b c f3 f7 rd rs1 rs2 u : Nat) (hb : b < 32768) (hD : c + f3 * 4096 = b) (hc : c < 128) (hf : f3 < 8) (h7 : f7 < 128) (g0 : b / 128 % 32 = 0) (hr : regsB 2 rd rs1 rs2 = true) (hn : -2048 ≤ n ∧ n < 2048) (hu : n % 4294967296 = (u : Int)) (hs : sh = 0) 
    (hR : ∀ w, Calls Tryz.prog 72 #[instV op rd rs1 rs2 n] w fun e w' => e = .returned (.bool true) ∧ Below w.heap.size w w')
    (hO : ∀ w, Calls Tryz.prog 25 #[.int .i64 op] w fun e w' => e = .returned (operV s 2 c f3 f7 sh) ∧ Below w.heap.size w w') (w : World) :
    Calls Tryz.prog 33 #[instV op rd rs1 rs2 n] w fun e w' => e = .returned (.tuple #[.int .u32 ((encN 0 2 b rd rs1 rs2 u : Nat) : Int), .int .i64 0]) ∧ Below w.heap.size w w' := by
  subst hs
  obtain ⟨e, r1, r2, r3⟩ := c2k2_sum b rd rs1 rs2 u hb g0 hr (by omega)
  have y0 := lay_at (0) 0 7 0 c (c : Int) (by omega) (by decide) (by decide) (by omega)
  have y1 := lay_at (0 + c * 2 ^ 0) 0 3 12 f3 (f3 : Int) (by omega) (by decide) (by decide) (by omega)
  have y2 := lay_at (0 + c * 2 ^ 0 + f3 * 2 ^ 12) 0 5 7 rd (rd : Int) (by omega) (by decide) (by decide) (by omega)
  have y3 := lay_at (0 + c * 2 ^ 0 + f3 * 2 ^ 12 + rd * 2 ^ 7) 0 5 15 rs1 (rs1 : Int) (by omega) (by decide) (by decide) (by omega)
  have y4 := lay_at (0 + c * 2 ^ 0 + f3 * 2 ^ 12 + rd * 2 ^ 7 + rs1 * 2 ^ 15) 0 12 20 (u % 4096) n (by omega) (by decide) (by decide) (by omega)
  have hM : 0 + c * 2 ^ 0 + f3 * 2 ^ 12 + rd * 2 ^ 7 + rs1 * 2 ^ 15 + (u % 4096) * 2 ^ 20 = encN 0 2 b rd rs1 rs2 u := by rw [e]; omega
  have hl : 0 + c * 2 ^ 0 + f3 * 2 ^ 12 + rd * 2 ^ 7 + rs1 * 2 ^ 15 + (u % 4096) * 2 ^ 20 < 4294967296 := by omega
  have h := renc2 op rd rs1 rs2 n s c f3 f7 0 _ _ _ _ _ y0 y1 y2 y3 (rest2_0 s c f3 f7 n _ _ y4) hl hR hO w
  rw [hM] at h
  exact h
theorem fin_c2k3 (op n : Int) (s : List UInt8) (sh : Int) (b c f3 f7 rd rs1 rs2 u : Nat) (hb : b < 32768) (hD : c + f3 * 4096 = b) (hc : c < 128) (hf : f3 < 8) (h7 : f7 < 128) (g0 : b / 128 % 32 = 0) (hr : regsB 3 rd rs1 rs2 = true) (hn : -2048 ≤ n ∧ n < 2048) (hu : n % 4294967296 = (u : Int)) (hs : sh = 0) 
    (hR : ∀ w, Calls Tryz.prog 72 #[instV op rd rs1 rs2 n] w fun e w' => e = .returned (.bool true) ∧ Below w.heap.size w w')
    (hO : ∀ w, Calls Tryz.prog 25 #[.int .i64 op] w fun e w' => e = .returned (operV s 3 c f3 f7 sh) ∧ Below w.heap.size w w') (w : World) :
    Calls Tryz.prog 33 #[instV op rd rs1 rs2 n] w fun e w' => e = .returned (.tuple #[.int .u32 ((encN 0 3 b rd rs1 rs2 u : Nat) : Int), .int .i64 0]) ∧ Below w.heap.size w w' := by
  subst hs
  obtain ⟨e, r1, r2, r3⟩ := c2k3_sum b rd rs1 rs2 u hb g0 hr (by omega)
  have y0 := lay_at (0) 0 7 0 c (c : Int) (by omega) (by decide) (by decide) (by omega)
  have y1 := lay_at (0 + c * 2 ^ 0) 0 3 12 f3 (f3 : Int) (by omega) (by decide) (by decide) (by omega)
  have y2 := lay_at (0 + c * 2 ^ 0 + f3 * 2 ^ 12) 0 5 7 rd (rd : Int) (by omega) (by decide) (by decide) (by omega)
  have y3 := lay_at (0 + c * 2 ^ 0 + f3 * 2 ^ 12 + rd * 2 ^ 7) 0 5 15 rs1 (rs1 : Int) (by omega) (by decide) (by decide) (by omega)
  have y4 := lay_at (0 + c * 2 ^ 0 + f3 * 2 ^ 12 + rd * 2 ^ 7 + rs1 * 2 ^ 15) 0 12 20 (u % 4096) n (by omega) (by decide) (by decide) (by omega)
  have hM : 0 + c * 2 ^ 0 + f3 * 2 ^ 12 + rd * 2 ^ 7 + rs1 * 2 ^ 15 + (u % 4096) * 2 ^ 20 = encN 0 3 b rd rs1 rs2 u := by rw [e]; omega
  have hl : 0 + c * 2 ^ 0 + f3 * 2 ^ 12 + rd * 2 ^ 7 + rs1 * 2 ^ 15 + (u % 4096) * 2 ^ 20 < 4294967296 := by omega
  have h := renc3 op rd rs1 rs2 n s c f3 f7 0 _ _ _ _ _ y0 y1 y2 y3 (rest3_0 s c f3 f7 n _ _ y4) hl hR hO w
  rw [hM] at h
  exact h
theorem fin_c3 (op n : Int) (s : List UInt8) (sh : Int) (b c f3 f7 rd rs1 rs2 u : Nat) (hb : b < 4294967296) (hD : c + f3 * 4096 + f7 * 67108864 = b) (hc : c < 128) (hf : f3 < 8) (h7 : f7 < 64) (g0 : b / 128 % 32 = 0) (g1 : b / 32768 % 32 = 0) (g2 : b / 1048576 % 64 = 0) (hr : regsB 2 rd rs1 rs2 = true) (hn : 0 ≤ n ∧ n < 64) (hu : n % 4294967296 = (u : Int)) (hs : sh = 6) 
    (hR : ∀ w, Calls Tryz.prog 72 #[instV op rd rs1 rs2 n] w fun e w' => e = .returned (.bool true) ∧ Below w.heap.size w w')
    (hO : ∀ w, Calls Tryz.prog 25 #[.int .i64 op] w fun e w' => e = .returned (operV s 2 c f3 f7 sh) ∧ Below w.heap.size w w') (w : World) :
    Calls Tryz.prog 33 #[instV op rd rs1 rs2 n] w fun e w' => e = .returned (.tuple #[.int .u32 ((encN 0 2 b rd rs1 rs2 u : Nat) : Int), .int .i64 0]) ∧ Below w.heap.size w w' := by
  subst hs
  obtain ⟨e, r1, r2, r3⟩ := c3_sum b rd rs1 rs2 u hb g0 g1 g2 hr (by omega) (by omega)
  have y0 := lay_at (0) 0 7 0 c (c : Int) (by omega) (by decide) (by decide) (by omega)
  have y1 := lay_at (0 + c * 2 ^ 0) 0 3 12 f3 (f3 : Int) (by omega) (by decide) (by decide) (by omega)
  have y2 := lay_at (0 + c * 2 ^ 0 + f3 * 2 ^ 12) 0 5 7 rd (rd : Int) (by omega) (by decide) (by decide) (by omega)
  have y3 := lay_at (0 + c * 2 ^ 0 + f3 * 2 ^ 12 + rd * 2 ^ 7) 0 5 15 rs1 (rs1 : Int) (by omega) (by decide) (by decide) (by omega)
  have y4 := lay_at (0 + c * 2 ^ 0 + f3 * 2 ^ 12 + rd * 2 ^ 7 + rs1 * 2 ^ 15) 0 6 20 u n (by omega) (by decide) (by decide) (by omega)
  have y5 := lay_at (0 + c * 2 ^ 0 + f3 * 2 ^ 12 + rd * 2 ^ 7 + rs1 * 2 ^ 15 + u * 2 ^ 20) 0 6 26 f7 (f7 : Int) (by omega) (by decide) (by decide) (by omega)
  have hM : 0 + c * 2 ^ 0 + f3 * 2 ^ 12 + rd * 2 ^ 7 + rs1 * 2 ^ 15 + u * 2 ^ 20 + f7 * 2 ^ 26 = encN 0 2 b rd rs1 rs2 u := by rw [e]; omega
  have hl : 0 + c * 2 ^ 0 + f3 * 2 ^ 12 + rd * 2 ^ 7 + rs1 * 2 ^ 15 + u * 2 ^ 20 + f7 * 2 ^ 26 < 4294967296 := by omega
  have h := renc2 op rd rs1 rs2 n s c f3 f7 6 _ _ _ _ _ y0 y1 y2 y3 (rest2_6 s c f3 f7 n _ _ _ y4 y5) hl hR hO w
  rw [hM] at h
  exact h
theorem fin_c4 (op n : Int) (s : List UInt8) (sh : Int) (b c f3 f7 rd rs1 rs2 u : Nat) (hb : b < 4294967296) (hD : c + f3 * 4096 + f7 * 33554432 = b) (hc : c < 128) (hf : f3 < 8) (h7 : f7 < 128) (g0 : b / 128 % 32 = 0) (g1 : b / 32768 % 32 = 0) (g2 : b / 1048576 % 32 = 0) (hr : regsB 2 rd rs1 rs2 = true) (hn : 0 ≤ n ∧ n < 32) (hu : n % 4294967296 = (u : Int)) (hs : sh = 5) 
    (hR : ∀ w, Calls Tryz.prog 72 #[instV op rd rs1 rs2 n] w fun e w' => e = .returned (.bool true) ∧ Below w.heap.size w w')
    (hO : ∀ w, Calls Tryz.prog 25 #[.int .i64 op] w fun e w' => e = .returned (operV s 2 c f3 f7 sh) ∧ Below w.heap.size w w') (w : World) :
    Calls Tryz.prog 33 #[instV op rd rs1 rs2 n] w fun e w' => e = .returned (.tuple #[.int .u32 ((encN 0 2 b rd rs1 rs2 u : Nat) : Int), .int .i64 0]) ∧ Below w.heap.size w w' := by
  subst hs
  obtain ⟨e, r1, r2, r3⟩ := c4_sum b rd rs1 rs2 u hb g0 g1 g2 hr (by omega) (by omega)
  have y0 := lay_at (0) 0 7 0 c (c : Int) (by omega) (by decide) (by decide) (by omega)
  have y1 := lay_at (0 + c * 2 ^ 0) 0 3 12 f3 (f3 : Int) (by omega) (by decide) (by decide) (by omega)
  have y2 := lay_at (0 + c * 2 ^ 0 + f3 * 2 ^ 12) 0 5 7 rd (rd : Int) (by omega) (by decide) (by decide) (by omega)
  have y3 := lay_at (0 + c * 2 ^ 0 + f3 * 2 ^ 12 + rd * 2 ^ 7) 0 5 15 rs1 (rs1 : Int) (by omega) (by decide) (by decide) (by omega)
  have y4 := lay_at (0 + c * 2 ^ 0 + f3 * 2 ^ 12 + rd * 2 ^ 7 + rs1 * 2 ^ 15) 0 5 20 u n (by omega) (by decide) (by decide) (by omega)
  have y5 := lay_at (0 + c * 2 ^ 0 + f3 * 2 ^ 12 + rd * 2 ^ 7 + rs1 * 2 ^ 15 + u * 2 ^ 20) 0 7 25 f7 (f7 : Int) (by omega) (by decide) (by decide) (by omega)
  have hM : 0 + c * 2 ^ 0 + f3 * 2 ^ 12 + rd * 2 ^ 7 + rs1 * 2 ^ 15 + u * 2 ^ 20 + f7 * 2 ^ 25 = encN 0 2 b rd rs1 rs2 u := by rw [e]; omega
  have hl : 0 + c * 2 ^ 0 + f3 * 2 ^ 12 + rd * 2 ^ 7 + rs1 * 2 ^ 15 + u * 2 ^ 20 + f7 * 2 ^ 25 < 4294967296 := by omega
  have h := renc2 op rd rs1 rs2 n s c f3 f7 5 _ _ _ _ _ y0 y1 y2 y3 (rest2_5 s c f3 f7 n _ _ _ y4 y5) hl hR hO w
  rw [hM] at h
  exact h
theorem fin_c5 (op n : Int) (s : List UInt8) (sh : Int) (b c f3 f7 rd rs1 rs2 u : Nat) (hb : b < 32768) (hD : c + f3 * 4096 = b) (hc : c < 128) (hf : f3 < 8) (h7 : f7 < 128) (g0 : b / 128 % 32 = 0) (hr : regsB 4 rd rs1 rs2 = true) (hn : -2048 ≤ n ∧ n < 2048) (hu : n % 4294967296 = (u : Int)) 
    (hR : ∀ w, Calls Tryz.prog 72 #[instV op rd rs1 rs2 n] w fun e w' => e = .returned (.bool true) ∧ Below w.heap.size w w')
    (hO : ∀ w, Calls Tryz.prog 25 #[.int .i64 op] w fun e w' => e = .returned (operV s 4 c f3 f7 sh) ∧ Below w.heap.size w w') (w : World) :
    Calls Tryz.prog 33 #[instV op rd rs1 rs2 n] w fun e w' => e = .returned (.tuple #[.int .u32 ((encN 0 4 b rd rs1 rs2 u : Nat) : Int), .int .i64 0]) ∧ Below w.heap.size w w' := by
  obtain ⟨e, r1, r2, r3⟩ := c5_sum b rd rs1 rs2 u hb g0 hr (by omega)
  have y0 := lay_at (0) 0 7 0 c (c : Int) (by omega) (by decide) (by decide) (by omega)
  have y1 := lay_at (0 + c * 2 ^ 0) 0 3 12 f3 (f3 : Int) (by omega) (by decide) (by decide) (by omega)
  have y2 := lay_at (0 + c * 2 ^ 0 + f3 * 2 ^ 12) 0 5 15 rs1 (rs1 : Int) (by omega) (by decide) (by decide) (by omega)
  have y3 := lay_at (0 + c * 2 ^ 0 + f3 * 2 ^ 12 + rs1 * 2 ^ 15) 0 5 20 rs2 (rs2 : Int) (by omega) (by decide) (by decide) (by omega)
  have y4 := lay_at (0 + c * 2 ^ 0 + f3 * 2 ^ 12 + rs1 * 2 ^ 15 + rs2 * 2 ^ 20) 0 5 7 (u % 32) n (by omega) (by decide) (by decide) (by omega)
  have y5 := lay_at (0 + c * 2 ^ 0 + f3 * 2 ^ 12 + rs1 * 2 ^ 15 + rs2 * 2 ^ 20 + (u % 32) * 2 ^ 7) 5 7 25 (u / 32 % 128) n (by clear e; have h0 : (u % 32) < 32 := (by omega); generalize (u % 32) = v0 at h0 ⊢; clear hu; omega) (by decide) (by decide) (by omega)
  have hM : 0 + c * 2 ^ 0 + f3 * 2 ^ 12 + rs1 * 2 ^ 15 + rs2 * 2 ^ 20 + (u % 32) * 2 ^ 7 + (u / 32 % 128) * 2 ^ 25 = encN 0 4 b rd rs1 rs2 u := by rw [e]; omega
  have hl : 0 + c * 2 ^ 0 + f3 * 2 ^ 12 + rs1 * 2 ^ 15 + rs2 * 2 ^ 20 + (u % 32) * 2 ^ 7 + (u / 32 % 128) * 2 ^ 25 < 4294967296 := by omega
  have h := renc4 op rd rs1 rs2 n s c f3 f7 sh _ _ _ _ _ y0 y1 y2 y3 (rest4 s c f3 f7 sh n _ _ _ y4 y5) hl hR hO w
  rw [hM] at h
  exact h
theorem fin_c6 (op n : Int) (s : List UInt8) (sh : Int) (b c f3 f7 rd rs1 rs2 u : Nat) (hb : b < 32768) (hD : c + f3 * 4096 = b) (hc : c < 128) (hf : f3 < 8) (h7 : f7 < 128) (g0 : b / 128 % 32 = 0) (hr : regsB 5 rd rs1 rs2 = true) (hn : n % 2 = 0 ∧ -4096 ≤ n ∧ n < 4096) (hu : n % 4294967296 = (u : Int)) 
    (hR : ∀ w, Calls Tryz.prog 72 #[instV op rd rs1 rs2 n] w fun e w' => e = .returned (.bool true) ∧ Below w.heap.size w w')
    (hO : ∀ w, Calls Tryz.prog 25 #[.int .i64 op] w fun e w' => e = .returned (operV s 5 c f3 f7 sh) ∧ Below w.heap.size w w') (w : World) :
    Calls Tryz.prog 33 #[instV op rd rs1 rs2 n] w fun e w' => e = .returned (.tuple #[.int .u32 ((encN 0 5 b rd rs1 rs2 u : Nat) : Int), .int .i64 0]) ∧ Below w.heap.size w w' := by
  obtain ⟨e, r1, r2, r3⟩ := c6_sum b rd rs1 rs2 u hb g0 hr (by omega)
  have y0 := lay_at (0) 0 7 0 c (c : Int) (by omega) (by decide) (by decide) (by omega)
  have y1 := lay_at (0 + c * 2 ^ 0) 0 3 12 f3 (f3 : Int) (by omega) (by decide) (by decide) (by omega)
  have y2 := lay_at (0 + c * 2 ^ 0 + f3 * 2 ^ 12) 0 5 15 rs1 (rs1 : Int) (by omega) (by decide) (by decide) (by omega)
  have y3 := lay_at (0 + c * 2 ^ 0 + f3 * 2 ^ 12 + rs1 * 2 ^ 15) 0 5 20 rs2 (rs2 : Int) (by omega) (by decide) (by decide) (by omega)
  have y4 := lay_at (0 + c * 2 ^ 0 + f3 * 2 ^ 12 + rs1 * 2 ^ 15 + rs2 * 2 ^ 20) 12 1 31 (u / 4096 % 2) n (by omega) (by decide) (by decide) (by omega)
  have y5 := lay_at (0 + c * 2 ^ 0 + f3 * 2 ^ 12 + rs1 * 2 ^ 15 + rs2 * 2 ^ 20 + (u / 4096 % 2) * 2 ^ 31) 5 6 25 (u / 32 % 64) n (by clear e; have h0 : (u / 4096 % 2) < 2 := (by omega); generalize (u / 4096 % 2) = v0 at h0 ⊢; clear hu; omega) (by decide) (by decide) (by omega)
  have y6 := lay_at (0 + c * 2 ^ 0 + f3 * 2 ^ 12 + rs1 * 2 ^ 15 + rs2 * 2 ^ 20 + (u / 4096 % 2) * 2 ^ 31 + (u / 32 % 64) * 2 ^ 25) 1 4 8 (u / 2 % 16) n (by clear e; have h0 : (u / 4096 % 2) < 2 := (by omega); have h1 : (u / 32 % 64) < 64 := (by omega); generalize (u / 4096 % 2) = v0 at h0 ⊢; generalize (u / 32 % 64) = v1 at h1 ⊢; clear hu; omega) (by decide) (by decide) (by omega)
  have y7 := lay_at (0 + c * 2 ^ 0 + f3 * 2 ^ 12 + rs1 * 2 ^ 15 + rs2 * 2 ^ 20 + (u / 4096 % 2) * 2 ^ 31 + (u / 32 % 64) * 2 ^ 25 + (u / 2 % 16) * 2 ^ 8) 11 1 7 (u / 2048 % 2) n (by clear e; have h0 : (u / 4096 % 2) < 2 := (by omega); have h1 : (u / 32 % 64) < 64 := (by omega); have h2 : (u / 2 % 16) < 16 := (by omega); generalize (u / 4096 % 2) = v0 at h0 ⊢; generalize (u / 32 % 64) = v1 at h1 ⊢; generalize (u / 2 % 16) = v2 at h2 ⊢; clear hu; omega) (by decide) (by decide) (by omega)
  have hM : 0 + c * 2 ^ 0 + f3 * 2 ^ 12 + rs1 * 2 ^ 15 + rs2 * 2 ^ 20 + (u / 4096 % 2) * 2 ^ 31 + (u / 32 % 64) * 2 ^ 25 + (u / 2 % 16) * 2 ^ 8 + (u / 2048 % 2) * 2 ^ 7 = encN 0 5 b rd rs1 rs2 u := by rw [e]; omega
  have hl : 0 + c * 2 ^ 0 + f3 * 2 ^ 12 + rs1 * 2 ^ 15 + rs2 * 2 ^ 20 + (u / 4096 % 2) * 2 ^ 31 + (u / 32 % 64) * 2 ^ 25 + (u / 2 % 16) * 2 ^ 8 + (u / 2048 % 2) * 2 ^ 7 < 4294967296 := by omega
  have h := renc5 op rd rs1 rs2 n s c f3 f7 sh _ _ _ _ _ y0 y1 y2 y3 (rest5 s c f3 f7 sh n _ _ _ _ _ y4 y5 y6 y7) hl hR hO w
  rw [hM] at h
  exact h
theorem fin_c7 (op n : Int) (s : List UInt8) (sh : Int) (b c f3 f7 rd rs1 rs2 u : Nat) (hb : b < 128) (hD : c = b) (hc : c < 128) (hf : f3 < 8) (h7 : f7 < 128) (h0 : f3 = 0)  (hr : regsB 6 rd rs1 rs2 = true) (hn : n % 4096 = 0 ∧ -2147483648 ≤ n ∧ n < 2147483648) (hu : n % 4294967296 = (u : Int)) 
    (hR : ∀ w, Calls Tryz.prog 72 #[instV op rd rs1 rs2 n] w fun e w' => e = .returned (.bool true) ∧ Below w.heap.size w w')
    (hO : ∀ w, Calls Tryz.prog 25 #[.int .i64 op] w fun e w' => e = .returned (operV s 6 c f3 f7 sh) ∧ Below w.heap.size w w') (w : World) :
    Calls Tryz.prog 33 #[instV op rd rs1 rs2 n] w fun e w' => e = .returned (.tuple #[.int .u32 ((encN 0 6 b rd rs1 rs2 u : Nat) : Int), .int .i64 0]) ∧ Below w.heap.size w w' := by
  obtain ⟨e, r1, r2, r3⟩ := c7_sum b rd rs1 rs2 u hb  hr (by omega) (by omega)
  have y0 := lay_at (0) 0 7 0 c (c : Int) (by omega) (by decide) (by decide) (by omega)
  have y1 := lay_at (0 + c * 2 ^ 0) 0 5 7 rd (rd : Int) (by omega) (by decide) (by decide) (by omega)
  have y2 := lay_at (0 + c * 2 ^ 0 + rd * 2 ^ 7) 12 20 12 (u / 4096) n (by omega) (by decide) (by decide) (by omega)
  have hM : 0 + c * 2 ^ 0 + rd * 2 ^ 7 + (u / 4096) * 2 ^ 12 = encN 0 6 b rd rs1 rs2 u := by rw [e]; omega
  have hl : 0 + c * 2 ^ 0 + rd * 2 ^ 7 + (u / 4096) * 2 ^ 12 < 4294967296 := by omega
  have h := renc6 op rd rs1 rs2 n s c f3 f7 sh _ _ _ y0 y1 (rest6 s c f3 f7 sh n _ _ y2) hl hR hO w
  rw [hM] at h
  exact h
theorem fin_c8 (op n : Int) (s : List UInt8) (sh : Int) (b c f3 f7 rd rs1 rs2 u : Nat) (hb : b < 128) (hD : c = b) (hc : c < 128) (hf : f3 < 8) (h7 : f7 < 128) (h0 : f3 = 0)  (hr : regsB 7 rd rs1 rs2 = true) (hn : n % 2 = 0 ∧ -1048576 ≤ n ∧ n < 1048576) (hu : n % 4294967296 = (u : Int)) 
    (hR : ∀ w, Calls Tryz.prog 72 #[instV op rd rs1 rs2 n] w fun e w' => e = .returned (.bool true) ∧ Below w.heap.size w w')
    (hO : ∀ w, Calls Tryz.prog 25 #[.int .i64 op] w fun e w' => e = .returned (operV s 7 c f3 f7 sh) ∧ Below w.heap.size w w') (w : World) :
    Calls Tryz.prog 33 #[instV op rd rs1 rs2 n] w fun e w' => e = .returned (.tuple #[.int .u32 ((encN 0 7 b rd rs1 rs2 u : Nat) : Int), .int .i64 0]) ∧ Below w.heap.size w w' := by
  obtain ⟨e, r1, r2, r3⟩ := c8_sum b rd rs1 rs2 u hb  hr (by omega)
  have y0 := lay_at (0) 0 7 0 c (c : Int) (by omega) (by decide) (by decide) (by omega)
  have y1 := lay_at (0 + c * 2 ^ 0) 0 5 7 rd (rd : Int) (by omega) (by decide) (by decide) (by omega)
  have y2 := lay_at (0 + c * 2 ^ 0 + rd * 2 ^ 7) 20 1 31 (u / 1048576 % 2) n (by omega) (by decide) (by decide) (by omega)
  have y3 := lay_at (0 + c * 2 ^ 0 + rd * 2 ^ 7 + (u / 1048576 % 2) * 2 ^ 31) 1 10 21 (u / 2 % 1024) n (by clear e; have h0 : (u / 1048576 % 2) < 2 := (by omega); generalize (u / 1048576 % 2) = v0 at h0 ⊢; clear hu; omega) (by decide) (by decide) (by omega)
  have y4 := lay_at (0 + c * 2 ^ 0 + rd * 2 ^ 7 + (u / 1048576 % 2) * 2 ^ 31 + (u / 2 % 1024) * 2 ^ 21) 11 1 20 (u / 2048 % 2) n (by clear e; have h0 : (u / 1048576 % 2) < 2 := (by omega); have h1 : (u / 2 % 1024) < 1024 := (by omega); generalize (u / 1048576 % 2) = v0 at h0 ⊢; generalize (u / 2 % 1024) = v1 at h1 ⊢; clear hu; omega) (by decide) (by decide) (by omega)
  have y5 := lay_at (0 + c * 2 ^ 0 + rd * 2 ^ 7 + (u / 1048576 % 2) * 2 ^ 31 + (u / 2 % 1024) * 2 ^ 21 + (u / 2048 % 2) * 2 ^ 20) 12 8 12 (u / 4096 % 256) n (by clear e; have h0 : (u / 1048576 % 2) < 2 := (by omega); have h1 : (u / 2 % 1024) < 1024 := (by omega); have h2 : (u / 2048 % 2) < 2 := (by omega); generalize (u / 1048576 % 2) = v0 at h0 ⊢; generalize (u / 2 % 1024) = v1 at h1 ⊢; generalize (u / 2048 % 2) = v2 at h2 ⊢; clear hu; omega) (by decide) (by decide) (by omega)
  have hM : 0 + c * 2 ^ 0 + rd * 2 ^ 7 + (u / 1048576 % 2) * 2 ^ 31 + (u / 2 % 1024) * 2 ^ 21 + (u / 2048 % 2) * 2 ^ 20 + (u / 4096 % 256) * 2 ^ 12 = encN 0 7 b rd rs1 rs2 u := by rw [e]; omega
  have hl : 0 + c * 2 ^ 0 + rd * 2 ^ 7 + (u / 1048576 % 2) * 2 ^ 31 + (u / 2 % 1024) * 2 ^ 21 + (u / 2048 % 2) * 2 ^ 20 + (u / 4096 % 256) * 2 ^ 12 < 4294967296 := by omega
  have h := renc7 op rd rs1 rs2 n s c f3 f7 sh _ _ _ y0 y1 (rest7 s c f3 f7 sh n _ _ _ _ _ y2 y3 y4 y5) hl hR hO w
  rw [hM] at h
  exact h
theorem fin_c9 (op n : Int) (s : List UInt8) (sh : Int) (b c f3 f7 rd rs1 rs2 u : Nat) (hb : b < 4294967296) (hD : c + f3 * 4096 + f7 * 1048576 + 127 * 33554432 = b) (hc : c < 128) (hf : f3 < 8) (h7 : f7 < 32) (g0 : b / 128 % 32 = 0) (g1 : b / 32768 % 32 = 0) (hr : regsB 8 rd rs1 rs2 = true) (hn : n = 0) (hu : n % 4294967296 = (u : Int)) 
    (hR : ∀ w, Calls Tryz.prog 72 #[instV op rd rs1 rs2 n] w fun e w' => e = .returned (.bool true) ∧ Below w.heap.size w w')
    (hO : ∀ w, Calls Tryz.prog 25 #[.int .i64 op] w fun e w' => e = .returned (operV s 8 c f3 f7 sh) ∧ Below w.heap.size w w') (w : World) :
    Calls Tryz.prog 33 #[instV op rd rs1 rs2 n] w fun e w' => e = .returned (.tuple #[.int .u32 ((encN 0 8 b rd rs1 rs2 u : Nat) : Int), .int .i64 0]) ∧ Below w.heap.size w w' := by
  obtain ⟨e, r1, r2, r3⟩ := c9_sum b rd rs1 rs2 u hb g0 g1 hr (by omega)
  have y0 := lay_at (0) 0 7 0 c (c : Int) (by omega) (by decide) (by decide) (by omega)
  have y1 := lay_at (0 + c * 2 ^ 0) 0 3 12 f3 (f3 : Int) (by omega) (by decide) (by decide) (by omega)
  have y2 := lay_at (0 + c * 2 ^ 0 + f3 * 2 ^ 12) 0 5 7 rd (rd : Int) (by omega) (by decide) (by decide) (by omega)
  have y3 := lay_at (0 + c * 2 ^ 0 + f3 * 2 ^ 12 + rd * 2 ^ 7) 0 5 15 rs1 (rs1 : Int) (by omega) (by decide) (by decide) (by omega)
  have y4 := lay_at (0 + c * 2 ^ 0 + f3 * 2 ^ 12 + rd * 2 ^ 7 + rs1 * 2 ^ 15) 0 5 20 f7 (f7 : Int) (by omega) (by decide) (by decide) (by omega)
  have y5 := lay_at (0 + c * 2 ^ 0 + f3 * 2 ^ 12 + rd * 2 ^ 7 + rs1 * 2 ^ 15 + f7 * 2 ^ 20) 0 7 25 127 127 (by omega) (by decide) (by decide) (by omega)
  have hM : 0 + c * 2 ^ 0 + f3 * 2 ^ 12 + rd * 2 ^ 7 + rs1 * 2 ^ 15 + f7 * 2 ^ 20 + 127 * 2 ^ 25 = encN 0 8 b rd rs1 rs2 u := by rw [e]; omega
  have hl : 0 + c * 2 ^ 0 + f3 * 2 ^ 12 + rd * 2 ^ 7 + rs1 * 2 ^ 15 + f7 * 2 ^ 20 + 127 * 2 ^ 25 < 4294967296 := by omega
  have h := renc8 op rd rs1 rs2 n s c f3 f7 sh _ _ _ _ _ y0 y1 y2 y3 (rest8 s c f3 f7 sh n _ _ _ y4 y5) hl hR hO w
  rw [hM] at h
  exact h
theorem fin_c10 (op n : Int) (s : List UInt8) (sh : Int) (b c f3 f7 rd rs1 rs2 u : Nat) (hb : b < 4294967296) (hD : c + f3 * 4096 + f7 * 1048576 = b) (hc : c < 128) (hf : f3 < 8) (h7 : f7 < 128)  (hr : regsB 9 rd rs1 rs2 = true) (hn : n = 0) (hu : n % 4294967296 = (u : Int)) 
    (hR : ∀ w, Calls Tryz.prog 72 #[instV op rd rs1 rs2 n] w fun e w' => e = .returned (.bool true) ∧ Below w.heap.size w w')
    (hO : ∀ w, Calls Tryz.prog 25 #[.int .i64 op] w fun e w' => e = .returned (operV s 9 c f3 f7 sh) ∧ Below w.heap.size w w') (w : World) :
    Calls Tryz.prog 33 #[instV op rd rs1 rs2 n] w fun e w' => e = .returned (.tuple #[.int .u32 ((encN 0 9 b rd rs1 rs2 u : Nat) : Int), .int .i64 0]) ∧ Below w.heap.size w w' := by
  obtain ⟨e, r1, r2, r3⟩ := c10_sum b rd rs1 rs2 u hb  hr (by omega)
  have y0 := lay_at (0) 0 7 0 c (c : Int) (by omega) (by decide) (by decide) (by omega)
  have y1 := lay_at (0 + c * 2 ^ 0) 0 3 12 f3 (f3 : Int) (by omega) (by decide) (by decide) (by omega)
  have y2 := lay_at (0 + c * 2 ^ 0 + f3 * 2 ^ 12) 0 12 20 f7 (f7 : Int) (by omega) (by decide) (by decide) (by omega)
  have hM : 0 + c * 2 ^ 0 + f3 * 2 ^ 12 + f7 * 2 ^ 20 = encN 0 9 b rd rs1 rs2 u := by rw [e]; omega
  have hl : 0 + c * 2 ^ 0 + f3 * 2 ^ 12 + f7 * 2 ^ 20 < 4294967296 := by omega
  have h := renc9 op rd rs1 rs2 n s c f3 f7 sh _ _ _ y0 y1 (rest9 s c f3 f7 sh n _ _ y2) hl hR hO w
  rw [hM] at h
  exact h
theorem fin_c11 (op n : Int) (s : List UInt8) (sh : Int) (b c f3 f7 rd rs1 rs2 u : Nat) (hb : b < 4294967296) (hD : c + f3 * 4096 + 128 + f7 * 33554432 = b) (hc : c < 128) (hf : f3 < 8) (h7 : f7 < 128) (g0 : b / 32768 % 32 = 0) (g1 : b / 1048576 % 32 = 0) (hr : regsB 10 rd rs1 rs2 = true) (hn : n = 0) (hu : n % 4294967296 = (u : Int)) 
    (hR : ∀ w, Calls Tryz.prog 72 #[instV op rd rs1 rs2 n] w fun e w' => e = .returned (.bool true) ∧ Below w.heap.size w w')
    (hO : ∀ w, Calls Tryz.prog 25 #[.int .i64 op] w fun e w' => e = .returned (operV s 10 c f3 f7 sh) ∧ Below w.heap.size w w') (w : World) :
    Calls Tryz.prog 33 #[instV op rd rs1 rs2 n] w fun e w' => e = .returned (.tuple #[.int .u32 ((encN 0 10 b rd rs1 rs2 u : Nat) : Int), .int .i64 0]) ∧ Below w.heap.size w w' := by
  obtain ⟨e, r1, r2, r3⟩ := c11_sum b rd rs1 rs2 u hb g0 g1 hr (by omega)
  have y0 := lay_at (0) 0 7 0 c (c : Int) (by omega) (by decide) (by decide) (by omega)
  have y1 := lay_at (0 + c * 2 ^ 0) 0 3 12 f3 (f3 : Int) (by omega) (by decide) (by decide) (by omega)
  have y2 := lay_at (0 + c * 2 ^ 0 + f3 * 2 ^ 12) 0 5 15 rs1 (rs1 : Int) (by omega) (by decide) (by decide) (by omega)
  have y3 := lay_at (0 + c * 2 ^ 0 + f3 * 2 ^ 12 + rs1 * 2 ^ 15) 0 5 20 rs2 (rs2 : Int) (by omega) (by decide) (by decide) (by omega)
  have y4 := lay_at (0 + c * 2 ^ 0 + f3 * 2 ^ 12 + rs1 * 2 ^ 15 + rs2 * 2 ^ 20) 0 5 7 1 1 (by omega) (by decide) (by decide) (by omega)
  have y5 := lay_at (0 + c * 2 ^ 0 + f3 * 2 ^ 12 + rs1 * 2 ^ 15 + rs2 * 2 ^ 20 + 1 * 2 ^ 7) 0 7 25 f7 (f7 : Int) (by omega) (by decide) (by decide) (by omega)
  have hM : 0 + c * 2 ^ 0 + f3 * 2 ^ 12 + rs1 * 2 ^ 15 + rs2 * 2 ^ 20 + 1 * 2 ^ 7 + f7 * 2 ^ 25 = encN 0 10 b rd rs1 rs2 u := by rw [e]; omega
  have hl : 0 + c * 2 ^ 0 + f3 * 2 ^ 12 + rs1 * 2 ^ 15 + rs2 * 2 ^ 20 + 1 * 2 ^ 7 + f7 * 2 ^ 25 < 4294967296 := by omega
  have h := renc10 op rd rs1 rs2 n s c f3 f7 sh _ _ _ _ _ y0 y1 y2 y3 (rest10 s c f3 f7 sh n _ _ _ y4 y5) hl hR hO w
  rw [hM] at h
  exact h
end Go.Proofs.YtegoddghfjfibaaGreatDoor.Is


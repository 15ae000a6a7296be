/- CuA McB -/
import Derived.Test.YtegoddghfjfibaaGreatDoorZ08
import Derived.Test.YtegoddghfjfibaaGreatDoorZ15
import Derived.Test.YtegoddghfjfibaaGreatDoorZ18
import Derived.Test.YtegoddghfjfibaaGreatDoorZ19
namespace Go.Proofs.YtegoddghfjfibaaGreatDoor
set_option linter.unusedVariables false
set_option linter.unusedSimpArgs false
open Go

/-! Capabilities, as the cap texts have them and as the memory's have them. -/
def cvC (c : Cp) : Ce.CapV := ⟨c.b, c.t, c.a, c.p, c.y, c.g⟩
def vcC (v : Ce.CapV) : Cp := ⟨v.base, v.top, v.at_, v.perms, v.ty, v.tag⟩
def intP (x : Int) : Cp := ⟨0, 0, x, 0, -1, false⟩
def moveP (c : Cp) (x : Int) : Cp := vcC (Ce.moveC (cvC c) x)
def boundP (c : Cp) (n : Int) : Cp := vcC (Ce.boundC (cvC c) n)
def andP (c : Cp) (n : Int) : Cp := vcC (Ce.andC (cvC c) n)
def sealP (c k : Cp) : Cp := vcC (Ce.sealC (cvC c) (cvC k))
def unsealP (c k : Cp) : Cp := vcC (Ce.unsealC (cvC c) (cvC k))
def clearP (c : Cp) : Cp := ⟨c.b, c.t, c.a, c.p, c.y, false⟩
def checkP (c : Cp) (n p : Int) : Int := Ce.capCheckC (cvC c) n p
def withinP (a b : Cp) : Bool := Ce.withinC (cvC a) (cvC b)
def flagP (o : Bool) : Cp := intP (if o then 1 else 0)
/-! A machine. -/
structure Mch where
  pc : Cp
  rs : List Cp
  m : Mm
/-- an instruction -/
structure Ins where
  op : Nat
  rd : Nat
  r1 : Nat
  r2 : Nat
  n : Int
def regP (rs : List Cp) (n : Nat) : Cp := if n = 0 then nullC else rs.getD n nullC
def putP (rs : List Cp) (n : Nat) (c : Cp) : List Cp := if n = 0 then rs else rs.set n c
def aheadP (pc : Cp) (n : Int) : Cp := moveP pc (IntKind.u64.wrap (pc.a + n))
def kindP (x : Ins) : Int := Is.kindZ (Is.bareN x.op)
def nameP (x : Ins) : List UInt8 := opN x.op
/-- what two registers make, or one and a number -/
def reckonP (x : Ins) (rs : List Cp) : Cp :=
  let a := regP rs x.r1
  let c := regP rs x.r2
  let n := if kindP x = 2 then IntKind.u64.wrap x.n else c.a
  if x.op ≤ 41 then intP (Al.reckZ x.op a.a n)
  else if nameP x == [99, 115, 101, 116, 98, 111, 117, 110, 100, 115] then boundP a n
  else if nameP x == [99, 97, 110, 100, 112, 101, 114, 109] then andP a (n % 256)
  else if nameP x == [99, 115, 101, 97, 108] then sealP a c
  else if nameP x == [99, 117, 110, 115, 101, 97, 108] then unsealP a c
  else if nameP x == [99, 115, 101, 116, 97, 100, 100, 114] then moveP a n
  else if nameP x == [99, 105, 110, 99, 97, 100, 100, 114] then moveP a (IntKind.u64.wrap (a.a + n))
  else flagP (a.g == c.g && withinP c a)
/-- what one register makes -/
def askP (x : Ins) (rs : List Cp) : Cp :=
  let a := regP rs x.r1
  if nameP x == [99, 103, 101, 116, 112, 101, 114, 109] then intP (IntKind.u64.wrap a.p)
  else if nameP x == [99, 103, 101, 116, 116, 121, 112, 101] then intP (IntKind.u64.wrap a.y)
  else if nameP x == [99, 103, 101, 116, 98, 97, 115, 101] then intP a.b
  else if nameP x == [99, 103, 101, 116, 108, 101, 110] then intP (if a.t ≤ a.b then 0 else a.t - a.b)
  else if nameP x == [99, 103, 101, 116, 116, 97, 103] then flagP a.g
  else if nameP x == [99, 99, 108, 101, 97, 114, 116, 97, 103] then clearP a
  else if nameP x == [99, 103, 101, 116, 97, 100, 100, 114] then intP a.a
  else a
def highP (x : Ins) (pc : Cp) : Cp := if nameP x == [97, 117, 105, 112, 99, 99] then aheadP pc (IntKind.u64.wrap x.n) else intP (IntKind.u64.wrap x.n)
def placeP (x : Ins) (rs : List Cp) : Cp :=
  let a := regP rs x.r1
  ⟨a.b, a.t, IntKind.u64.wrap (a.a + IntKind.u64.wrap x.n), a.p, a.y, a.g⟩
/-- what a jump does: where to, and why not -/
def jumpP (to_ : Cp) : Int := if checkP to_ 4 4 ≠ 0 then checkP to_ 4 4 else if to_.a % 4 ≠ 0 then 31 else 0
def loadCapP (m : Mm) (c : Cp) : Cp × Int :=
  if checkP c 32 1 ≠ 0 then (nullC, checkP c 32 1)
  else (if bits .and .i64 c.p 8 = 0 then clearP (loadC m c.a.toNat).1 else (loadC m c.a.toNat).1, (loadC m c.a.toNat).2)
def loadP (m : Mm) (op : Nat) (c : Cp) : Cp × Int :=
  let w := Al.widthZ (opN op)
  if w.2.2 then
    if checkP c w.1 1 ≠ 0 then (nullC, checkP c w.1 1)
    else (intP (if w.2.1 then signZ (loadF m c.a.toNat w.1).1 (8 * w.1) else (loadF m c.a.toNat w.1).1), (loadF m c.a.toNat w.1).2)
  else loadCapP m c
def saveCapP (m : Mm) (c v : Cp) : Mm × Int :=
  if checkP c 32 2 ≠ 0 then (m, checkP c 32 2)
  else if v.g && bits .and .i64 c.p 16 == 0 then (m, 22)
  else storeC m c.a.toNat v
def saveP (m : Mm) (op : Nat) (c v : Cp) : Mm × Int :=
  let w := Al.widthZ (opN op)
  if w.2.2 then
    if checkP c w.1 2 ≠ 0 then (m, checkP c w.1 2)
    else storeF m c.a.toNat w.1 v.a
  else saveCapP m c v
def invokeE (a c : Cp) : Int :=
  if !a.g || !c.g then 20
  else if a.y < 0 ∨ c.y < 0 then 21
  else if a.y ≠ c.y then 62
  else if bits .and .i64 (bits .and .i64 a.p c.p) 128 == 0 || bits .and .i64 a.p 4 == 0 || bits .and .i64 c.p 4 != 0 then 22
  else 0
def openP (c : Cp) : Cp := ⟨c.b, c.t, c.a, c.p, -1, c.g⟩
/-- an instruction is done: the machine behind it, and why not -/
def doP (s : Mch) (x : Ins) : Mch × Int :=
  let next := aheadP s.pc 4
  let k := kindP x
  if k = 1 ∨ k = 2 then (⟨next, putP s.rs x.rd (reckonP x s.rs), s.m⟩, 0)
  else if k = 8 then (⟨next, putP s.rs x.rd (askP x s.rs), s.m⟩, 0)
  else if k = 3 then
    let c := placeP x s.rs
    if nameP x == [99, 106, 97, 108, 114] then
      if jumpP c ≠ 0 then (s, jumpP c) else (⟨c, putP s.rs x.rd next, s.m⟩, 0)
    else
      if (loadP s.m x.op c).2 ≠ 0 then (s, (loadP s.m x.op c).2) else (⟨next, putP s.rs x.rd (loadP s.m x.op c).1, s.m⟩, 0)
  else if k = 4 then
    let r := saveP s.m x.op (placeP x s.rs) (regP s.rs x.r2)
    if r.2 ≠ 0 then (s, r.2) else (⟨next, s.rs, r.1⟩, 0)
  else if k = 5 then
    if (Al.holdZ (nameP x) (regP s.rs x.r1).a (regP s.rs x.r2).a).1 then (⟨aheadP s.pc (IntKind.u64.wrap x.n), s.rs, s.m⟩, 0) else (⟨next, s.rs, s.m⟩, 0)
  else if k = 6 then (⟨next, putP s.rs x.rd (highP x s.pc), s.m⟩, 0)
  else if k = 7 then (⟨aheadP s.pc (IntKind.u64.wrap x.n), putP s.rs x.rd next, s.m⟩, 0)
  else if k = 10 then
    let a := regP s.rs x.r1
    let c := regP s.rs x.r2
    if invokeE a c ≠ 0 then (s, invokeE a c) else (⟨openP a, putP s.rs 31 (openP c), s.m⟩, 0)
  else if k = 9 then (s, if nameP x == [101, 99, 97, 108, 108] then 60 else 61)
  else (⟨next, s.rs, s.m⟩, 0)
/-- the operation whose own number stands in a number; 0: there is none -/
def decN (x : Nat) : Nat := ((List.range 83).find? fun (r : Nat) => decide (1 ≤ r) && Is.hitB (Is.bareN (r : Int)) x).getD 0
def insP (x r : Nat) : Ins := ⟨r, Is.rdN (Is.kindZ (Is.bareN r)) x, Is.rs1N (Is.kindZ (Is.bareN r)) x, Is.rs2N (Is.kindZ (Is.bareN r)) x, Is.immZ (Is.kindZ (Is.bareN r)) (Is.shiftZ (Is.bareN r)) x⟩
/-- a step: the machine behind it, and why it does nothing -/
def stepP (s : Mch) : Mch × Int :=
  if checkP s.pc 4 4 ≠ 0 then (s, checkP s.pc 4 4)
  else if (loadF s.m s.pc.a.toNat 4).2 ≠ 0 then (s, (loadF s.m s.pc.a.toNat 4).2)
  else
    let w := (loadF s.m s.pc.a.toNat 4).1.toNat % 4294967296
    if decN w = 0 then (s, 40) else doP s (insP w (decN w))
end Go.Proofs.YtegoddghfjfibaaGreatDoor

namespace Go.Proofs.YtegoddghfjfibaaGreatDoor
set_option linter.unusedVariables false
set_option linter.unusedSimpArgs false
open Go.Joins Go.ChangeShapes Go.WideShapes Go.ChangeAt Go.RowKit Go.Deep

theorem undrewB {W W' : World} (h : Below W.drew.heap.size W.drew W') : Below W.heap.size W W' := ⟨h.os, h.tape, h.output, h.size, h.block⟩
theorem mcBuilt (pc : Cp) (M : Nat) : Tryz.prog.built 38 [(0, .agg (capC pc).toArray), (2, .pointer (some ⟨M, 0, none⟩))] = some (mcL pc (List.replicate 32 ⟨0, 0, 0, 0, 0, false⟩) M).toArray := by
  obtain ⟨b, t, a, p, y, g⟩ := pc
  kernel_rfl
theorem rmcBuilt (pc : Cp) (M : Nat) : Tryz.prog.built 46 [(0, .agg (capC pc).toArray), (2, .pointer (some ⟨M, 0, none⟩))] = some (mcL pc (List.replicate 32 ⟨0, 0, 0, 0, 0, false⟩) M).toArray := by
  obtain ⟨b, t, a, p, y, g⟩ := pc
  kernel_rfl
theorem capSize6 : (Tryz.prog.info? 24).map (·.size) = some 6 := by kernel_rfl
theorem rep_len (c : Cp) : (List.replicate 32 c).length = 32 := by simp
theorem set_all {rs : List Cp} {k : Nat} {c : Cp} (h : ∀ j (hj : j < rs.length), j < k → rs[j] = c) : ∀ j (hj : j < (rs.set k c).length), j < k + 1 → (rs.set k c)[j] = c := fun j hj hk => by
  rw [List.getElem_set]
  split
  · rfl
  · exact h j (by simpa using hj) (by omega)
theorem all_rep {rs : List Cp} {c : Cp} (hl : rs.length = 32) (h : ∀ j (hj : j < rs.length), j < 32 → rs[j] = c) : rs = List.replicate 32 c :=
  List.ext_getElem (by rw [hl]; simp) fun j h1 h2 => by rw [h j h1 (by omega), List.getElem_replicate]
set_option maxRecDepth 100000 in
set_option maxHeartbeats 4000000 in
theorem mnew_any (M : Nat) (pc : Cp) (W : World) :
    Calls Tryz.prog 36 #[.pointer (some ⟨M, 0, none⟩), .agg (capC pc).toArray] W fun e W' => ∃ A, e = .returned (.pointer (some ⟨A, 0, none⟩)) ∧ W.heap.size ≤ A ∧ McAt W' A M pc (List.replicate 32 nullC) ∧ Below W.heap.size W W' := by
  have hbuilt := mcBuilt pc M
  obtain ⟨L, hL⟩ : ∃ L, (mcL pc (List.replicate 32 ⟨0, 0, 0, 0, 0, false⟩) M).toArray = L := ⟨_, rfl⟩
  rw [hL] at hbuilt
  have HLL := Lib.hid hL
  have HBT := Lib.hid hbuilt
  obtain ⟨pcA, hpc⟩ : ∃ x, (capC pc).toArray = x := ⟨_, rfl⟩
  rw [hpc] at hbuilt ⊢
  have HPC := Lib.hid hpc
  clear hL hpc
  go_enter Tryz.func36, Tryz.ntmps36
  go_upto_region 0 with fail
  apply wp_region_lit
  refine Great.wpList_boxTo rfl 24 _ rfl (some 3) rfl W.heap.size rfl pcA rfl ?_
  obtain ⟨W1, hW1⟩ : ∃ W1, W.alloc (.cells pcA 24) = W1 := ⟨_, rfl⟩
  have hbx : BoxN W1 W.heap.size pcA := by rw [← hW1]; exact BoxN.new _ _ _
  have hb1 : Below W.heap.size W W1 := by rw [← hW1]; exact bAlloc (Below.refl _ _) _
  rw [hW1]
  obtain ⟨B, hB⟩ : ∃ B, W.heap.size = B := ⟨_, rfl⟩
  rw [hB] at hbx hb1 ⊢
  have hr : W1.rangeAt B 0 (capC pc) := range_mid (pre := []) (mid := capC pc) (post := []) (by rw [List.append_nil, List.nil_append, HPC.out]; exact hbx)
  clear hW1
  go_upto_region 1 with fail
  apply wp_region_lit
  refine wpList_load_mid rfl _ _ rfl B 0 rfl (capC pc) _ hr Tryz.underlying24 rfl capSize6 ?_
  refine Great.wpList_readTo rfl (some 8) rfl (.pointer (some ⟨M, 0, none⟩)) (by kernel_rfl) ?_
  refine wpList_buildTo rfl 38 _ rfl (some 9) rfl L ((show _ = Tryz.prog.built 38 [(0, .agg (capC pc).toArray), (2, .pointer (some ⟨M, 0, none⟩))] from by kernel_rfl).trans HBT.out) ?_
  refine Great.wpList_boxTo rfl 38 _ rfl (some 10) rfl W1.heap.size rfl L rfl ?_
  obtain ⟨W2, hW2⟩ : ∃ W2, W1.alloc (.cells L 38) = W2 := ⟨_, rfl⟩
  have hbx2 : BoxN W2 W1.heap.size L := by rw [← hW2]; exact BoxN.new _ _ _
  have hb2 : Below W1.heap.size W1 W2 := by rw [← hW2]; exact bAlloc (Below.refl _ _) _
  rw [hW2]
  obtain ⟨A, hA⟩ : ∃ A, W1.heap.size = A := ⟨_, rfl⟩
  have hBA : B ≤ A := by have := hb1.size; omega
  have H2 : Hid (McAt W2 A M pc (List.replicate 32 ⟨0, 0, 0, 0, 0, false⟩)) := Lib.hid ⟨by rw [HLL.out, ← hA]; exact hbx2, rep_len _⟩
  have B2 : Hid (Below B W W2) := Lib.hid (hb1.trans (hb2.mono (by omega)))
  rw [hA]
  have HBA := Lib.hid hBA
  have HB := Lib.hid hB
  clear hW2 hbx2 hb2 hb1 hr hbx hA hBA hB
  go_wp2_with fail
  go_loopw [6, 11] (fun i x wr => ∃ (k : Nat) (rs : List Cp), x = .int .i64 (k : Int) ∧ k ≤ 32 ∧ Hid (∀ j (h : j < rs.length), j < k → rs[j] = nullC) ∧ Hid (McAt wr A M pc rs) ∧ Hid (Below B W wr)) (fun _ x _ => 32 - (intOf x).toNat)
  case atStart => exact ⟨0, _, rfl, by omega, Lib.hid (fun j h h0 => absurd h0 (by omega)), H2, B2⟩
  case round =>
    obtain ⟨k, rs, rfl, hk, HQ, HM, HBL⟩ := hrel
    by_cases hlt : k < 32
    · have hd1 : decide ((k : Int) < 32) = true := decide_eq_true (by omega)
      have kk0 : (0 : Int) ≤ (k : Int) := by omega
      have kk1 : (k : Int) < 32 := by omega
      have HL := Lib.hid hlt
      clear hlt hk H2 B2
      go_upto_region 5 with fail
      go_region_law (first
        | (go_simp; go_at_call 48; refine (null_any _).mono ?_; rintro e w1 ⟨rfl, hb⟩; have hb := undrewB hb; have H1 := Lib.hid (HM.out.below hb); have B1 := Lib.hid (HBL.out.trans (hb.mono (by rw [← HB.out]; exact HBL.out.size))); obtain ⟨c0, c1, c2, c3, c4, c5⟩ := range6 (H1.out.reg k (by have := H1.out.len; have := HL.out; omega)); obtain ⟨f0, f1, f2, f3, f4, f5⟩ := there6 (H1.out.regThere k (by have := H1.out.len; have := HL.out; omega)); clear hb; dsimp only))
      all_goals
        have hk2 : k < rs.length := by have := H1.out.len; have := HL.out; omega
        have h3 := H1.out.setReg k hk2 nullC
        have b3 := below_setCells A HBA.out (capC nullC) (6 + k * 6) _ B1.out
        have h4 := set_all (c := nullC) HQ.out
        rw [show capC nullC = [.int .u64 0, .int .u64 0, .int .u64 0, .int .i64 0, .int .i64 (-1), .bool false] from rfl, set6_eq] at h3 b3
        generalize (((((w1.setCell ⟨A, 6 + k * 6, none⟩ (.int .u64 0)).setCell ⟨A, 6 + k * 6 + 1, none⟩ (.int .u64 0)).setCell ⟨A, 6 + k * 6 + 2, none⟩ (.int .u64 0)).setCell ⟨A, 6 + k * 6 + 3, none⟩ (.int .i64 0)).setCell ⟨A, 6 + k * 6 + 4, none⟩ (.int .i64 (-1))).setCell ⟨A, 6 + k * 6 + 5, none⟩ (.bool false) = W3 at *
        have H3 := Lib.hid h3
        have B3 := Lib.hid b3
        have H4 := Lib.hid h4
        clear h3 b3 h4 hk2 c0 c1 c2 c3 c4 c5 f0 f1 f2 f3 f4 f5 H1 B1
        go_wp2_with fail
        have hl := HL.out
        go_roundw
        case rel => exact ⟨k + 1, _, by go_num, by omega, H4, H3, B3⟩
        case measure => simp [intOf]; omega
    · obtain rfl : k = 32 := by omega
      have hrs := all_rep HM.out.len HQ.out
      subst hrs
      clear hlt hk H2 B2
      go_wp2_with fail
      go_ret
      exact ⟨A, rfl, by rw [HB.out]; exact HBA.out, HM.out, by rw [HB.out]; exact HBL.out⟩
set_option maxRecDepth 100000 in
set_option maxHeartbeats 4000000 in
theorem rmnew_any (M : Nat) (pc : Cp) (W : World) :
    Calls Tryz.prog 37 #[.pointer (some ⟨M, 0, none⟩), .agg (capC pc).toArray] W fun e W' => ∃ A, e = .returned (.pointer (some ⟨A, 0, none⟩)) ∧ W.heap.size ≤ A ∧ McAt W' A M pc (List.replicate 32 nullC) ∧ Below W.heap.size W W' := by
  have hbuilt := rmcBuilt pc M
  obtain ⟨L, hL⟩ : ∃ L, (mcL pc (List.replicate 32 ⟨0, 0, 0, 0, 0, false⟩) M).toArray = L := ⟨_, rfl⟩
  rw [hL] at hbuilt
  have HLL := Lib.hid hL
  have HBT := Lib.hid hbuilt
  obtain ⟨pcA, hpc⟩ : ∃ x, (capC pc).toArray = x := ⟨_, rfl⟩
  rw [hpc] at hbuilt ⊢
  have HPC := Lib.hid hpc
  clear hL hpc
  go_enter Tryz.func37, Tryz.ntmps37
  go_upto_region 0 with fail
  apply wp_region_lit
  refine Great.wpList_boxTo rfl 24 _ rfl (some 3) rfl W.heap.size rfl pcA rfl ?_
  obtain ⟨W1, hW1⟩ : ∃ W1, W.alloc (.cells pcA 24) = W1 := ⟨_, rfl⟩
  have hbx : BoxN W1 W.heap.size pcA := by rw [← hW1]; exact BoxN.new _ _ _
  have hb1 : Below W.heap.size W W1 := by rw [← hW1]; exact bAlloc (Below.refl _ _) _
  rw [hW1]
  obtain ⟨B, hB⟩ : ∃ B, W.heap.size = B := ⟨_, rfl⟩
  rw [hB] at hbx hb1 ⊢
  have hr : W1.rangeAt B 0 (capC pc) := range_mid (pre := []) (mid := capC pc) (post := []) (by rw [List.append_nil, List.nil_append, HPC.out]; exact hbx)
  clear hW1
  go_upto_region 1 with fail
  apply wp_region_lit
  refine wpList_load_mid rfl _ _ rfl B 0 rfl (capC pc) _ hr Tryz.underlying24 rfl capSize6 ?_
  refine Great.wpList_readTo rfl (some 8) rfl (.pointer (some ⟨M, 0, none⟩)) (by kernel_rfl) ?_
  refine wpList_buildTo rfl 46 _ rfl (some 9) rfl L ((show _ = Tryz.prog.built 46 [(0, .agg (capC pc).toArray), (2, .pointer (some ⟨M, 0, none⟩))] from by kernel_rfl).trans HBT.out) ?_
  refine Great.wpList_boxTo rfl 46 _ rfl (some 10) rfl W1.heap.size rfl L rfl ?_
  obtain ⟨W2, hW2⟩ : ∃ W2, W1.alloc (.cells L 46) = W2 := ⟨_, rfl⟩
  have hbx2 : BoxN W2 W1.heap.size L := by rw [← hW2]; exact BoxN.new _ _ _
  have hb2 : Below W1.heap.size W1 W2 := by rw [← hW2]; exact bAlloc (Below.refl _ _) _
  rw [hW2]
  obtain ⟨A, hA⟩ : ∃ A, W1.heap.size = A := ⟨_, rfl⟩
  have hBA : B ≤ A := by have := hb1.size; omega
  have H2 : Hid (McAt W2 A M pc (List.replicate 32 ⟨0, 0, 0, 0, 0, false⟩)) := Lib.hid ⟨by rw [HLL.out, ← hA]; exact hbx2, rep_len _⟩
  have B2 : Hid (Below B W W2) := Lib.hid (hb1.trans (hb2.mono (by omega)))
  rw [hA]
  have HBA := Lib.hid hBA
  have HB := Lib.hid hB
  clear hW2 hbx2 hb2 hb1 hr hbx hA hBA hB
  go_wp2_with fail
  go_loopw [6] (fun x wr => ∃ (k : Nat) (rs : List Cp), x = .int .i64 (k : Int) ∧ k ≤ 32 ∧ Hid (∀ j (h : j < rs.length), j < k → rs[j] = nullC) ∧ Hid (McAt wr A M pc rs) ∧ Hid (Below B W wr)) (fun x _ => 32 - (intOf x).toNat)
  case atStart => exact ⟨0, _, rfl, by omega, Lib.hid (fun j h h0 => absurd h0 (by omega)), H2, B2⟩
  case round =>
    obtain ⟨k, rs, rfl, hk, HQ, HM, HBL⟩ := hrel
    by_cases hlt : k < 32
    · have hd1 : decide ((k : Int) < 32) = true := decide_eq_true (by omega)
      have kk0 : (0 : Int) ≤ (k : Int) := by omega
      have kk1 : (k : Int) < 32 := by omega
      have HL := Lib.hid hlt
      clear hlt hk H2 B2
      go_upto_region 5 with fail
      go_region_law (first
        | (go_simp; go_at_call 28; refine (rint_any _ _).mono ?_; rintro e w1 ⟨rfl, hb⟩; have hb := undrewB hb; have H1 := Lib.hid (HM.out.below hb); have B1 := Lib.hid (HBL.out.trans (hb.mono (by rw [← HB.out]; exact HBL.out.size))); obtain ⟨c0, c1, c2, c3, c4, c5⟩ := range6 (H1.out.reg k (by have := H1.out.len; have := HL.out; omega)); obtain ⟨f0, f1, f2, f3, f4, f5⟩ := there6 (H1.out.regThere k (by have := H1.out.len; have := HL.out; omega)); clear hb; dsimp only))
      all_goals
        have hk2 : k < rs.length := by have := H1.out.len; have := HL.out; omega
        have h3 := H1.out.setReg k hk2 nullC
        have b3 := below_setCells A HBA.out (capC nullC) (6 + k * 6) _ B1.out
        have h4 := set_all (c := nullC) HQ.out
        rw [show capC nullC = [.int .u64 0, .int .u64 0, .int .u64 0, .int .i64 0, .int .i64 (-1), .bool false] from rfl, set6_eq] at h3 b3
        generalize (((((w1.setCell ⟨A, 6 + k * 6, none⟩ (.int .u64 0)).setCell ⟨A, 6 + k * 6 + 1, none⟩ (.int .u64 0)).setCell ⟨A, 6 + k * 6 + 2, none⟩ (.int .u64 0)).setCell ⟨A, 6 + k * 6 + 3, none⟩ (.int .i64 0)).setCell ⟨A, 6 + k * 6 + 4, none⟩ (.int .i64 (-1))).setCell ⟨A, 6 + k * 6 + 5, none⟩ (.bool false) = W3 at *
        have H3 := Lib.hid h3
        have B3 := Lib.hid b3
        have H4 := Lib.hid h4
        clear h3 b3 h4 hk2 c0 c1 c2 c3 c4 c5 f0 f1 f2 f3 f4 f5 H1 B1
        go_wp2_with fail
        have hl := HL.out
        go_roundw
        case rel => exact ⟨k + 1, _, by go_num, by omega, H4, H3, B3⟩
        case measure => simp [intOf]; omega
    · obtain rfl : k = 32 := by omega
      have hrs := all_rep HM.out.len HQ.out
      subst hrs
      clear hlt hk H2 B2
      go_wp2_with fail
      go_ret
      exact ⟨A, rfl, by rw [HB.out]; exact HBA.out, HM.out, by rw [HB.out]; exact HBL.out⟩
end Go.Proofs.YtegoddghfjfibaaGreatDoor


/- Merged: TmOa TmOb TmOc TmOd. -/
import Derived.Test.YtgfkjlknkbdjiaaTmUn
import Derived.Test.YtgfkjlknkbdjiaaTmPn
import Derived.Test.YtgfkjlknkbdjiaaTmLd
import Derived.Test.YtgfkjlknkbdjiaaTmX
import Derived.Test.YtgfkjlknkbdjiaaTmY
import Derived.Test.YtgfkjlknkbdjiaaTmZ
import Derived.Test.YtgfkjlknkbdjiaaTmTg
namespace Go.Proofs.Ytgfkjlknkbdjiaa
set_option linter.unusedVariables false
set_option linter.unusedSimpArgs false
open Go.Joins Go.ChangeShapes Go.WideShapes Go.ChangeAt Go.RowKit Go.Deep

/-- a call: what is done, where, how many, which number, which capability, which bytes -/
structure Opr where
  d : Int
  a : Nat
  n : Int
  w : Int
  c : Cp
  l : List Nat
  ba : Option Addr
  bc : Nat
def opC (o : Opr) : Array Value := #[.int .i64 o.d, .int .u64 (o.a : Int), .int .i64 o.n, .int .u64 o.w, .int .u64 o.c.b, .int .u64 o.c.t, .int .u64 o.c.a, .int .i64 o.c.p, .int .i64 o.c.y, .bool o.c.g, .slice o.ba o.l.length o.bc]
/-- it is one that can be, its bytes below N -/
structure FitO (W : World) (N : Nat) (o : Opr) : Prop where
  a : o.a < 18446744073709551616
  n0 : -9223372036854775808 ≤ o.n
  n1 : o.n < 9223372036854775808
  w0 : 0 ≤ o.w
  w1 : o.w < 18446744073709551616
  c : FitC o.c
  lb : ∀ b ∈ o.l, b < 256
  ll : o.l.length ≤ o.bc
  lm : o.l.length < 9223372036854775808
  rd : Rd W o.ba o.l.length (u8s o.l)
  bn : 0 < o.l.length → ∀ g off, o.ba = some ⟨g, off, none⟩ → g < N
theorem FitO.below {W W' : World} {N : Nat} {o : Opr} (h : FitO W N o) (hb : Below N W W') : FitO W' N o :=
  ⟨h.a, h.n0, h.n1, h.w0, h.w1, h.c, h.lb, h.ll, h.lm, ⟨h.rd.1, fun hn => by
    obtain ⟨b, off, e, hl, hc⟩ := h.rd.2 hn
    have hbl := h.bn hn b off e
    exact ⟨b, off, e, Nat.lt_of_lt_of_le hl hb.size, fun k hk => (World.cell?_of_block (hb.block b hbl)).trans (hc k hk)⟩⟩, h.bn⟩
theorem FitO.mono {W : World} {N N' : Nat} {o : Opr} (h : FitO W N o) (hN : N ≤ N') : FitO W N' o :=
  ⟨h.a, h.n0, h.n1, h.w0, h.w1, h.c, h.lb, h.ll, h.lm, h.rd, fun hn g off e => Nat.lt_of_lt_of_le (h.bn hn g off e) hN⟩
def stepM (m : Mm) (o : Opr) : Mm :=
  if o.d = 1 then (mapF m o.a o.n).1 else if o.d = 2 then (unmapF m o.a o.n).1 else if o.d = 3 then (storeF m o.a o.n o.w).1
  else if o.d = 4 then (if rightB o.c then (storeC m o.a o.c).1 else m) else if o.d = 5 then (if 600 < o.l.length then m else (putF m o.a o.l).1) else m
/-- both memories, in blocks of their own, from N on -/
def Two (W : World) (N M R : Nat) (m r : Mm) : Prop := ∃ F G, MemAt W M F m ∧ RmAt W R G r ∧ (∀ b, F b → ¬ G b) ∧ (∀ b, F b → N ≤ b) ∧ (∀ b, G b → N ≤ b) ∧ N ≤ W.heap.size
theorem MemAt.lt {W : World} {M : Nat} {F : Nat → Prop} {m : Mm} (h : MemAt W M F m) : ∀ b, F b → b < W.heap.size := by
  obtain ⟨B, D, pb, h⟩ := h
  exact h.lt
theorem two_below {W W' : World} {N M R : Nat} {m r : Mm} (h : Two W N M R m r) (hb : Below W.heap.size W W') : Two W' N M R m r ∧ Below N W W' := by
  obtain ⟨F, G, h1, h2, h3, h4, h5, h6⟩ := h
  exact ⟨⟨F, G, h1.below hb, h2.below hb, h3, h4, h5, Nat.le_trans h6 hb.size⟩, hb.mono h6⟩
theorem kp_belowN {W W' : World} {N : Nat} {F : Nat → Prop} (hk : KP W.heap.size F W W') (hF : ∀ b, F b → N ≤ b) (hN : N ≤ W.heap.size) : Below N W W' :=
  hk.to_below hN (fun b hb hf => by have := hF b hf; omega)
/-- one contract of the program's behind one of the document's -/
theorem two_step {W0 W1 W2 : World} {N M R : Nat} {F G F1 : Nat → Prop} {r m1 r1 : Mm} (hR0 : RmAt W0 R G r) (hd : ∀ b, F b → ¬ G b) (hF : ∀ b, F b → N ≤ b) (hG : ∀ b, G b → N ≤ b) (hN : N ≤ W0.heap.size)
    (hM1 : MemAt W1 M F1 m1) (hs : ∀ b, F1 b → F b ∨ W0.heap.size ≤ b) (hk1 : KP W0.heap.size F W0 W1) (hR2 : RmAt W2 R (FN G W1 W2) r1) (hk2 : KP W1.heap.size G W1 W2) : Two W2 N M R m1 r1 ∧ Below N W0 W2 := by
  have hG1 : ∀ b, G b → b < W0.heap.size := hR0.lt
  have hF1 : ∀ b, F1 b → b < W1.heap.size := hM1.lt
  have h01 := hk1.size
  have hdis : ∀ b, F1 b → ¬ G b := fun b hb hg => by
    rcases hs b hb with h | h
    · exact hd b h hg
    · have := hG1 b hg; omega
  refine ⟨⟨F1, FN G W1 W2, hM1.kp hk2 (Nat.le_refl _) hdis, hR2, fun b hb hg => ?_, fun b hb => ?_, fun b hb => ?_, Nat.le_trans hN (Nat.le_trans h01 hk2.size)⟩, (kp_belowN hk1 hF hN).trans (kp_belowN hk2 hG (by omega))⟩
  · rcases hg with h | h
    · exact hdis b hb h
    · have := hF1 b hb; omega
  · rcases hs b hb with h | h
    · exact hF b h
    · omega
  · rcases hb with h | h
    · exact hG b h
    · omega
theorem step_rd {W0 W1 : World} {F : Nat → Prop} {a : Option Addr} {n N : Nat} {xs : List Value} (hk : KP W0.heap.size F W0 W1) (hF : ∀ b, F b → N ≤ b) (hr : Rd W0 a n xs) (hb : 0 < n → ∀ g off, a = some ⟨g, off, none⟩ → g < N) : Rd W1 a n xs :=
  hk.rd hr (fun b off h0 e => ⟨by obtain ⟨b', off', e', hl, _⟩ := hr.2 h0; rw [e] at e'; cases e'; exact hl, fun hf => by have := hF b hf; have := hb h0 b off e; omega⟩)
end Go.Proofs.Ytgfkjlknkbdjiaa

namespace Go.Proofs.Ytgfkjlknkbdjiaa
set_option linter.unusedVariables false
set_option linter.unusedSimpArgs false
open Go.Joins Go.ChangeShapes Go.WideShapes Go.ChangeAt Go.RowKit Go.Deep

set_option maxRecDepth 100000 in
set_option maxHeartbeats 2000000 in
theorem one1 (W : World) (N M R : Nat) (m : Mm) (h : Two W N M R m m) (a : Nat) (n w : Int) (c : Cp) (l : List Nat) (ba : Option Addr) (bc : Nat) (hf : FitO W N ⟨1, a, n, w, c, l, ba, bc⟩) :
    Calls Try.prog 29 #[.pointer (some ⟨M, 0, none⟩), .pointer (some ⟨R, 0, none⟩), .agg (opC ⟨1, a, n, w, c, l, ba, bc⟩)] W fun e W' => e = .returned (.bool true) ∧ Two W' N M R (mapF m (a : Int) n).1 (mapF m (a : Int) n).1 ∧ Below N W W' := by
  obtain ⟨F, G, hM, hR, hd, hF, hG, hN⟩ := h
  obtain ⟨cb, ct, ca, cp, cy, cg⟩ := c
  have hop : opC ⟨1, a, n, w, ⟨cb, ct, ca, cp, cy, cg⟩, l, ba, bc⟩ = #[.int .i64 1, .int .u64 (a : Int), .int .i64 n, .int .u64 w, .int .u64 cb, .int .u64 ct, .int .u64 ca, .int .i64 cp, .int .i64 cy, .bool cg, .slice ba l.length bc] := rfl
  rw [hop]
  obtain ⟨W0, hW0⟩ : ∃ W0, W.alloc (.cells #[.int .i64 1, .int .u64 (a : Int), .int .i64 n, .int .u64 w, .int .u64 cb, .int .u64 ct, .int .u64 ca, .int .i64 cp, .int .i64 cy, .bool cg, .slice ba l.length bc] 53) = W0 := ⟨_, rfl⟩
  have hb0 : Below W.heap.size W W0 := by rw [← hW0]; exact bAlloc (Below.refl _ _) _
  have HX0 : Hid (BoxN W0 W.heap.size #[.int .i64 1, .int .u64 (a : Int), .int .i64 n, .int .u64 w, .int .u64 cb, .int .u64 ct, .int .u64 ca, .int .i64 cp, .int .i64 cy, .bool cg, .slice ba l.length bc]) := Lib.hid (by rw [← hW0]; exact BoxN.new W _ _)
  have hz0 : W0.heap.size = W.heap.size + 1 := by rw [← hW0, size_alloc]
  have hSF : ¬ F W.heap.size := fun hf => by have := hM.lt _ hf; omega
  have hSG : ¬ G W.heap.size := fun hf => by have := hR.lt _ hf; omega
  obtain ⟨S, hS⟩ : ∃ S, W.heap.size = S := ⟨_, rfl⟩
  have hM0 := hM.below hb0
  have hR0 := hR.below hb0
  have hf0 := hf.below (hb0.mono hN)
  have hN0 : N ≤ W0.heap.size := by omega
  have HBN : Hid (Below N W W0) := Lib.hid (hb0.mono hN)
  obtain ⟨fa, fn0, fn1, fw0, fw1, fc, flb, fll, flm, frd, fbn⟩ := hf0
  simp only at fa fn0 fn1 fw0 fw1 fc flb fll flm frd fbn
  rw [hS] at HX0 hSF hSG hz0
  have HC1 := Lib.hid (map_any W0 M F m hM0 (a : Int) n (by omega) (by omega) fn0 fn1)
  have HC2 := Lib.hid (fun W1 (h1 : RmAt W1 R G m) => rmap_any W1 R G m h1 (a : Int) n (by omega) (by omega) fn0 fn1)
  have HR0 := Lib.hid hR0
  have w00 : W0.cell? ⟨S, 0, none⟩ = some (.int .i64 1) := HX0.out.cell 0
  have w01 : W0.cell? ⟨S, 1, none⟩ = some (.int .u64 (a : Int)) := HX0.out.cell 1
  have w02 : W0.cell? ⟨S, 2, none⟩ = some (.int .i64 n) := HX0.out.cell 2
  obtain ⟨e1, he1⟩ : ∃ e, (mapF m (a : Int) n).2 = e := ⟨_, rfl⟩
  rw [he1] at HC1 HC2
  clear hM hR hb0 hM0 hf hR0 frd fbn flb fc hop he1
  go_enter Try.func29, Try.ntmps29
  go_upto_region 1 with fail
  (try simp only [hW0, hS])
  clear hW0 hS
  go_wp2_with fail
  refine HC1.out.mono ?_; rintro e W1 ⟨rfl, F1, hM1, hs, hk1⟩
  have hR1 := HR0.out.kp hk1 (Nat.le_refl _) (fun b hb hf => hd b hf hb)
  have HX1 := Lib.hid (HX0.out.kp hk1 (by omega) hSF)
  have HD := Lib.hid (HC2.out W1 hR1)
  have HTS := Lib.hid (fun W2 r1 (h2 : RmAt W2 R (FN G W1 W2) r1) (hk2 : KP W1.heap.size G W1 W2) => two_step HR0.out hd hF hG hN0 hM1 hs hk1 h2 hk2)
  have w10 : W1.cell? ⟨S, 0, none⟩ = some (.int .i64 1) := HX1.out.cell 0
  have w11 : W1.cell? ⟨S, 1, none⟩ = some (.int .u64 (a : Int)) := HX1.out.cell 1
  have w12 : W1.cell? ⟨S, 2, none⟩ = some (.int .i64 n) := HX1.out.cell 2
  clear hR1 hM1 hk1 hs HC1 HC2
  go_wp2_with fail
  refine HD.out.mono ?_; rintro e W2 ⟨rfl, hR2, hk2⟩
  have h3 := HTS.out W2 _ hR2 hk2
  have H3 := Lib.hid h3
  clear h3 hR2 hk2 HTS HD
  go_wp2_with fail
  go_ret
  exact ⟨by simp, H3.out.1, HBN.out.trans H3.out.2⟩
set_option maxRecDepth 100000 in
set_option maxHeartbeats 2000000 in
theorem one2 (W : World) (N M R : Nat) (m : Mm) (h : Two W N M R m m) (a : Nat) (n w : Int) (c : Cp) (l : List Nat) (ba : Option Addr) (bc : Nat) (hf : FitO W N ⟨2, a, n, w, c, l, ba, bc⟩) :
    Calls Try.prog 29 #[.pointer (some ⟨M, 0, none⟩), .pointer (some ⟨R, 0, none⟩), .agg (opC ⟨2, a, n, w, c, l, ba, bc⟩)] W fun e W' => e = .returned (.bool true) ∧ Two W' N M R (unmapF m (a : Int) n).1 (unmapF m (a : Int) n).1 ∧ Below N W W' := by
  obtain ⟨F, G, hM, hR, hd, hF, hG, hN⟩ := h
  obtain ⟨cb, ct, ca, cp, cy, cg⟩ := c
  have hop : opC ⟨2, a, n, w, ⟨cb, ct, ca, cp, cy, cg⟩, l, ba, bc⟩ = #[.int .i64 2, .int .u64 (a : Int), .int .i64 n, .int .u64 w, .int .u64 cb, .int .u64 ct, .int .u64 ca, .int .i64 cp, .int .i64 cy, .bool cg, .slice ba l.length bc] := rfl
  rw [hop]
  obtain ⟨W0, hW0⟩ : ∃ W0, W.alloc (.cells #[.int .i64 2, .int .u64 (a : Int), .int .i64 n, .int .u64 w, .int .u64 cb, .int .u64 ct, .int .u64 ca, .int .i64 cp, .int .i64 cy, .bool cg, .slice ba l.length bc] 53) = W0 := ⟨_, rfl⟩
  have hb0 : Below W.heap.size W W0 := by rw [← hW0]; exact bAlloc (Below.refl _ _) _
  have HX0 : Hid (BoxN W0 W.heap.size #[.int .i64 2, .int .u64 (a : Int), .int .i64 n, .int .u64 w, .int .u64 cb, .int .u64 ct, .int .u64 ca, .int .i64 cp, .int .i64 cy, .bool cg, .slice ba l.length bc]) := Lib.hid (by rw [← hW0]; exact BoxN.new W _ _)
  have hz0 : W0.heap.size = W.heap.size + 1 := by rw [← hW0, size_alloc]
  have hSF : ¬ F W.heap.size := fun hf => by have := hM.lt _ hf; omega
  have hSG : ¬ G W.heap.size := fun hf => by have := hR.lt _ hf; omega
  obtain ⟨S, hS⟩ : ∃ S, W.heap.size = S := ⟨_, rfl⟩
  have hM0 := hM.below hb0
  have hR0 := hR.below hb0
  have hf0 := hf.below (hb0.mono hN)
  have hN0 : N ≤ W0.heap.size := by omega
  have HBN : Hid (Below N W W0) := Lib.hid (hb0.mono hN)
  obtain ⟨fa, fn0, fn1, fw0, fw1, fc, flb, fll, flm, frd, fbn⟩ := hf0
  simp only at fa fn0 fn1 fw0 fw1 fc flb fll flm frd fbn
  rw [hS] at HX0 hSF hSG hz0
  have HC1 := Lib.hid (unmap_any W0 M F m hM0 (a : Int) n (by omega) (by omega) fn0 fn1)
  have HC2 := Lib.hid (fun W1 (h1 : RmAt W1 R G m) => runmap_any W1 R G m h1 (a : Int) n (by omega) (by omega) fn0 fn1)
  have HR0 := Lib.hid hR0
  have w00 : W0.cell? ⟨S, 0, none⟩ = some (.int .i64 2) := HX0.out.cell 0
  have w01 : W0.cell? ⟨S, 1, none⟩ = some (.int .u64 (a : Int)) := HX0.out.cell 1
  have w02 : W0.cell? ⟨S, 2, none⟩ = some (.int .i64 n) := HX0.out.cell 2
  obtain ⟨e1, he1⟩ : ∃ e, (unmapF m (a : Int) n).2 = e := ⟨_, rfl⟩
  rw [he1] at HC1 HC2
  clear hM hR hb0 hM0 hf hR0 frd fbn flb fc hop he1
  go_enter Try.func29, Try.ntmps29
  go_upto_region 1 with fail
  (try simp only [hW0, hS])
  clear hW0 hS
  go_wp2_with fail
  refine HC1.out.mono ?_; rintro e W1 ⟨rfl, hM1, hk1⟩
  have hR1 := HR0.out.kp hk1 (Nat.le_refl _) (fun b hb hf => hd b hf hb)
  have HX1 := Lib.hid (HX0.out.kp hk1 (by omega) hSF)
  have HD := Lib.hid (HC2.out W1 hR1)
  have HTS := Lib.hid (fun W2 r1 (h2 : RmAt W2 R (FN G W1 W2) r1) (hk2 : KP W1.heap.size G W1 W2) => two_step HR0.out hd hF hG hN0 hM1 (fun b hb => Or.inl hb) hk1 h2 hk2)
  have w10 : W1.cell? ⟨S, 0, none⟩ = some (.int .i64 2) := HX1.out.cell 0
  have w11 : W1.cell? ⟨S, 1, none⟩ = some (.int .u64 (a : Int)) := HX1.out.cell 1
  have w12 : W1.cell? ⟨S, 2, none⟩ = some (.int .i64 n) := HX1.out.cell 2
  clear hR1 hM1 hk1 HC1 HC2
  go_wp2_with fail
  refine HD.out.mono ?_; rintro e W2 ⟨rfl, hR2, hk2⟩
  have h3 := HTS.out W2 _ hR2 hk2
  have H3 := Lib.hid h3
  clear h3 hR2 hk2 HTS HD
  go_wp2_with fail
  go_ret
  exact ⟨by simp, H3.out.1, HBN.out.trans H3.out.2⟩
set_option maxRecDepth 100000 in
set_option maxHeartbeats 2000000 in
theorem one3 (W : World) (N M R : Nat) (m : Mm) (h : Two W N M R m m) (a : Nat) (n w : Int) (c : Cp) (l : List Nat) (ba : Option Addr) (bc : Nat) (hf : FitO W N ⟨3, a, n, w, c, l, ba, bc⟩) :
    Calls Try.prog 29 #[.pointer (some ⟨M, 0, none⟩), .pointer (some ⟨R, 0, none⟩), .agg (opC ⟨3, a, n, w, c, l, ba, bc⟩)] W fun e W' => e = .returned (.bool true) ∧ Two W' N M R (storeF m (a : Int) n w).1 (storeF m (a : Int) n w).1 ∧ Below N W W' := by
  obtain ⟨F, G, hM, hR, hd, hF, hG, hN⟩ := h
  obtain ⟨cb, ct, ca, cp, cy, cg⟩ := c
  have hop : opC ⟨3, a, n, w, ⟨cb, ct, ca, cp, cy, cg⟩, l, ba, bc⟩ = #[.int .i64 3, .int .u64 (a : Int), .int .i64 n, .int .u64 w, .int .u64 cb, .int .u64 ct, .int .u64 ca, .int .i64 cp, .int .i64 cy, .bool cg, .slice ba l.length bc] := rfl
  rw [hop]
  obtain ⟨W0, hW0⟩ : ∃ W0, W.alloc (.cells #[.int .i64 3, .int .u64 (a : Int), .int .i64 n, .int .u64 w, .int .u64 cb, .int .u64 ct, .int .u64 ca, .int .i64 cp, .int .i64 cy, .bool cg, .slice ba l.length bc] 53) = W0 := ⟨_, rfl⟩
  have hb0 : Below W.heap.size W W0 := by rw [← hW0]; exact bAlloc (Below.refl _ _) _
  have HX0 : Hid (BoxN W0 W.heap.size #[.int .i64 3, .int .u64 (a : Int), .int .i64 n, .int .u64 w, .int .u64 cb, .int .u64 ct, .int .u64 ca, .int .i64 cp, .int .i64 cy, .bool cg, .slice ba l.length bc]) := Lib.hid (by rw [← hW0]; exact BoxN.new W _ _)
  have hz0 : W0.heap.size = W.heap.size + 1 := by rw [← hW0, size_alloc]
  have hSF : ¬ F W.heap.size := fun hf => by have := hM.lt _ hf; omega
  have hSG : ¬ G W.heap.size := fun hf => by have := hR.lt _ hf; omega
  obtain ⟨S, hS⟩ : ∃ S, W.heap.size = S := ⟨_, rfl⟩
  have hM0 := hM.below hb0
  have hR0 := hR.below hb0
  have hf0 := hf.below (hb0.mono hN)
  have hN0 : N ≤ W0.heap.size := by omega
  have HBN : Hid (Below N W W0) := Lib.hid (hb0.mono hN)
  obtain ⟨fa, fn0, fn1, fw0, fw1, fc, flb, fll, flm, frd, fbn⟩ := hf0
  simp only at fa fn0 fn1 fw0 fw1 fc flb fll flm frd fbn
  rw [hS] at HX0 hSF hSG hz0
  have HC1 := Lib.hid (store_any W0 M F m hM0 a n w fa fw0 fw1)
  have HC2 := Lib.hid (fun W1 (h1 : RmAt W1 R G m) => rstore_any W1 R G m h1 a n w fa fw0 fw1)
  have HR0 := Lib.hid hR0
  have w00 : W0.cell? ⟨S, 0, none⟩ = some (.int .i64 3) := HX0.out.cell 0
  have w01 : W0.cell? ⟨S, 1, none⟩ = some (.int .u64 (a : Int)) := HX0.out.cell 1
  have w02 : W0.cell? ⟨S, 2, none⟩ = some (.int .i64 n) := HX0.out.cell 2
  have w03 : W0.cell? ⟨S, 3, none⟩ = some (.int .u64 w) := HX0.out.cell 3
  obtain ⟨e1, he1⟩ : ∃ e, (storeF m (a : Int) n w).2 = e := ⟨_, rfl⟩
  rw [he1] at HC1 HC2
  clear hM hR hb0 hM0 hf hR0 frd fbn flb fc hop he1
  go_enter Try.func29, Try.ntmps29
  go_upto_region 1 with fail
  (try simp only [hW0, hS])
  clear hW0 hS
  go_wp2_with fail
  refine HC1.out.mono ?_; rintro e W1 ⟨rfl, hM1, hk1⟩
  have hR1 := HR0.out.kp hk1 (Nat.le_refl _) (fun b hb hf => hd b hf hb)
  have HX1 := Lib.hid (HX0.out.kp hk1 (by omega) hSF)
  have HD := Lib.hid (HC2.out W1 hR1)
  have HTS := Lib.hid (fun W2 r1 (h2 : RmAt W2 R (FN G W1 W2) r1) (hk2 : KP W1.heap.size G W1 W2) => two_step HR0.out hd hF hG hN0 hM1 (fun b hb => Or.inl hb) hk1 h2 hk2)
  have w10 : W1.cell? ⟨S, 0, none⟩ = some (.int .i64 3) := HX1.out.cell 0
  have w11 : W1.cell? ⟨S, 1, none⟩ = some (.int .u64 (a : Int)) := HX1.out.cell 1
  have w12 : W1.cell? ⟨S, 2, none⟩ = some (.int .i64 n) := HX1.out.cell 2
  have w13 : W1.cell? ⟨S, 3, none⟩ = some (.int .u64 w) := HX1.out.cell 3
  clear hR1 hM1 hk1 HC1 HC2
  go_wp2_with fail
  refine HD.out.mono ?_; rintro e W2 ⟨rfl, hR2, hk2⟩
  have h3 := HTS.out W2 _ hR2 hk2
  have H3 := Lib.hid h3
  clear h3 hR2 hk2 HTS HD
  go_wp2_with fail
  go_ret
  exact ⟨by simp, H3.out.1, HBN.out.trans H3.out.2⟩
end Go.Proofs.Ytgfkjlknkbdjiaa

namespace Go.Proofs.Ytgfkjlknkbdjiaa
set_option linter.unusedVariables false
set_option linter.unusedSimpArgs false
open Go.Joins Go.ChangeShapes Go.WideShapes Go.ChangeAt Go.RowKit Go.Deep

set_option maxRecDepth 100000 in
set_option maxHeartbeats 2000000 in
theorem one4 (W : World) (N M R : Nat) (m : Mm) (h : Two W N M R m m) (a : Nat) (n w : Int) (c : Cp) (l : List Nat) (ba : Option Addr) (bc : Nat) (hf : FitO W N ⟨4, a, n, w, c, l, ba, bc⟩) :
    Calls Try.prog 29 #[.pointer (some ⟨M, 0, none⟩), .pointer (some ⟨R, 0, none⟩), .agg (opC ⟨4, a, n, w, c, l, ba, bc⟩)] W fun e W' => e = .returned (.bool true) ∧ Two W' N M R (if rightB c then (storeC m a c).1 else m) (if rightB c then (storeC m a c).1 else m) ∧ Below N W W' := by
  obtain ⟨F, G, hM, hR, hd, hF, hG, hN⟩ := h
  obtain ⟨cb, ct, ca, cp, cy, cg⟩ := c
  have hop : opC ⟨4, a, n, w, ⟨cb, ct, ca, cp, cy, cg⟩, l, ba, bc⟩ = #[.int .i64 4, .int .u64 (a : Int), .int .i64 n, .int .u64 w, .int .u64 cb, .int .u64 ct, .int .u64 ca, .int .i64 cp, .int .i64 cy, .bool cg, .slice ba l.length bc] := rfl
  rw [hop]
  obtain ⟨c, hc⟩ : ∃ c : Cp, (⟨cb, ct, ca, cp, cy, cg⟩ : Cp) = c := ⟨_, rfl⟩
  obtain ⟨W0, hW0⟩ : ∃ W0, W.alloc (.cells #[.int .i64 4, .int .u64 (a : Int), .int .i64 n, .int .u64 w, .int .u64 cb, .int .u64 ct, .int .u64 ca, .int .i64 cp, .int .i64 cy, .bool cg, .slice ba l.length bc] 53) = W0 := ⟨_, rfl⟩
  have hb0 : Below W.heap.size W W0 := by rw [← hW0]; exact bAlloc (Below.refl _ _) _
  have HX0 : Hid (BoxN W0 W.heap.size #[.int .i64 4, .int .u64 (a : Int), .int .i64 n, .int .u64 w, .int .u64 cb, .int .u64 ct, .int .u64 ca, .int .i64 cp, .int .i64 cy, .bool cg, .slice ba l.length bc]) := Lib.hid (by rw [← hW0]; exact BoxN.new W _ _)
  have hz0 : W0.heap.size = W.heap.size + 1 := by rw [← hW0, size_alloc]
  have hSF : ¬ F W.heap.size := fun hf => by have := hM.lt _ hf; omega
  have hSG : ¬ G W.heap.size := fun hf => by have := hR.lt _ hf; omega
  obtain ⟨S, hS⟩ : ∃ S, W.heap.size = S := ⟨_, rfl⟩
  have hM0 := hM.below hb0
  have hR0 := hR.below hb0
  have hf0 := hf.below (hb0.mono hN)
  have hN0 : N ≤ W0.heap.size := by omega
  have HBN : Hid (Below N W W0) := Lib.hid (hb0.mono hN)
  obtain ⟨fa, fn0, fn1, fw0, fw1, fc, flb, fll, flm, frd, fbn⟩ := hf0
  simp only at fa fn0 fn1 fw0 fw1 fc flb fll flm frd fbn
  rw [hS] at HX0 hSF hSG hz0
  have hcc : (capC c).toArray = #[.int .u64 cb, .int .u64 ct, .int .u64 ca, .int .i64 cp, .int .i64 cy, .bool cg] := by rw [← hc]; rfl
  rw [hc] at fc
  rw [hc]
  have HRI := Lib.hid (right_any c W0)
  have HC1 := Lib.hid (fun W1 (h1 : MemAt W1 M F m) => storeC_any W1 M F m h1 a c fa fc)
  have HC2 := Lib.hid (fun W1 (h1 : RmAt W1 R G m) => rstoreC_any W1 R G m h1 a c fa fc)
  rw [hcc] at HRI
  simp only [hcc] at HC1 HC2
  have HM0 := Lib.hid hM0
  have HR0 := Lib.hid hR0
  have HTB := Lib.hid (show Two W0 N M R m m from ⟨F, G, hM0, hR0, hd, hF, hG, hN0⟩)
  have w00 : W0.cell? ⟨S, 0, none⟩ = some (.int .i64 4) := HX0.out.cell 0
  have w01 : W0.cell? ⟨S, 1, none⟩ = some (.int .u64 (a : Int)) := HX0.out.cell 1
  have w04 : W0.cell? ⟨S, 4, none⟩ = some (.int .u64 cb) := HX0.out.cell 4
  have w05 : W0.cell? ⟨S, 5, none⟩ = some (.int .u64 ct) := HX0.out.cell 5
  have w06 : W0.cell? ⟨S, 6, none⟩ = some (.int .u64 ca) := HX0.out.cell 6
  have w07 : W0.cell? ⟨S, 7, none⟩ = some (.int .i64 cp) := HX0.out.cell 7
  have w08 : W0.cell? ⟨S, 8, none⟩ = some (.int .i64 cy) := HX0.out.cell 8
  have w09 : W0.cell? ⟨S, 9, none⟩ = some (.bool cg) := HX0.out.cell 9
  clear hM hR hb0 hM0 hf hR0 frd fbn flb fc hop hc hcc
  obtain ⟨rb, hrb⟩ : ∃ r, rightB c = r := ⟨_, rfl⟩
  rw [hrb] at HRI
  rw [hrb]
  clear hrb
  obtain ⟨e1, he1⟩ : ∃ e, (storeC m (a : Int) c).2 = e := ⟨_, rfl⟩
  rw [he1] at HC1 HC2
  clear he1
  go_enter Try.func29, Try.ntmps29
  go_upto_region 1 with fail
  (try simp only [hW0, hS])
  clear hW0 hS
  go_wp2_with fail
  refine HRI.out.mono ?_; rintro e WR ⟨rfl, hbR⟩
  have htb := two_below HTB.out hbR
  have HTC := Lib.hid htb
  have hM1 := HM0.out.below hbR
  have hR1 := HR0.out.below hbR
  have HXR := Lib.hid (boxN_below HX0.out hbR)
  have hzR := hbR.size
  have HBR := Lib.hid (hbR.mono hN0)
  cases rb
  · clear htb hM1 hR1 hbR
    go_wp2_with fail
    go_ret
    exact ⟨rfl, HTC.out.1, HBN.out.trans HTC.out.2⟩
  · have HD1 := Lib.hid (HC1.out WR hM1)
    have HR1 := Lib.hid hR1
    have hNR : N ≤ WR.heap.size := by omega
    have wr1 : WR.cell? ⟨S, 1, none⟩ = some (.int .u64 (a : Int)) := HXR.out.cell 1
    have wr4 : WR.cell? ⟨S, 4, none⟩ = some (.int .u64 cb) := HXR.out.cell 4
    have wr5 : WR.cell? ⟨S, 5, none⟩ = some (.int .u64 ct) := HXR.out.cell 5
    have wr6 : WR.cell? ⟨S, 6, none⟩ = some (.int .u64 ca) := HXR.out.cell 6
    have wr7 : WR.cell? ⟨S, 7, none⟩ = some (.int .i64 cp) := HXR.out.cell 7
    have wr8 : WR.cell? ⟨S, 8, none⟩ = some (.int .i64 cy) := HXR.out.cell 8
    have wr9 : WR.cell? ⟨S, 9, none⟩ = some (.bool cg) := HXR.out.cell 9
    clear htb hM1 hR1 hbR HC1 HTC
    go_wp2_with fail
    refine HD1.out.mono ?_; rintro e W1 ⟨rfl, hM1, hk1⟩
    have hR1 := HR1.out.kp hk1 (Nat.le_refl _) (fun b hb hf => hd b hf hb)
    have HX1 := Lib.hid (HXR.out.kp hk1 (by omega) hSF)
    have HD := Lib.hid (HC2.out W1 hR1)
    have HTS := Lib.hid (fun W2 r1 (h2 : RmAt W2 R (FN G W1 W2) r1) (hk2 : KP W1.heap.size G W1 W2) => two_step HR1.out hd hF hG hNR hM1 (fun b hb => Or.inl hb) hk1 h2 hk2)
    have w11 : W1.cell? ⟨S, 1, none⟩ = some (.int .u64 (a : Int)) := HX1.out.cell 1
    have w14 : W1.cell? ⟨S, 4, none⟩ = some (.int .u64 cb) := HX1.out.cell 4
    have w15 : W1.cell? ⟨S, 5, none⟩ = some (.int .u64 ct) := HX1.out.cell 5
    have w16 : W1.cell? ⟨S, 6, none⟩ = some (.int .u64 ca) := HX1.out.cell 6
    have w17 : W1.cell? ⟨S, 7, none⟩ = some (.int .i64 cp) := HX1.out.cell 7
    have w18 : W1.cell? ⟨S, 8, none⟩ = some (.int .i64 cy) := HX1.out.cell 8
    have w19 : W1.cell? ⟨S, 9, none⟩ = some (.bool cg) := HX1.out.cell 9
    clear hR1 hM1 hk1 HC2 HD1
    go_wp2_with fail
    refine HD.out.mono ?_; rintro e W2 ⟨rfl, hR2, hk2⟩
    have h3 := HTS.out W2 _ hR2 hk2
    have H3 := Lib.hid h3
    clear h3 hR2 hk2 HTS HD
    go_wp2_with fail
    go_ret
    exact ⟨by simp, H3.out.1, HBN.out.trans (HBR.out.trans H3.out.2)⟩
set_option maxRecDepth 100000 in
set_option maxHeartbeats 2000000 in
theorem one5 (W : World) (N M R : Nat) (m : Mm) (h : Two W N M R m m) (a : Nat) (n w : Int) (c : Cp) (l : List Nat) (ba : Option Addr) (bc : Nat) (hf : FitO W N ⟨5, a, n, w, c, l, ba, bc⟩) :
    Calls Try.prog 29 #[.pointer (some ⟨M, 0, none⟩), .pointer (some ⟨R, 0, none⟩), .agg (opC ⟨5, a, n, w, c, l, ba, bc⟩)] W fun e W' => e = .returned (.bool true) ∧ Two W' N M R (if 600 < l.length then m else (putF m a l).1) (if 600 < l.length then m else (putF m a l).1) ∧ Below N W W' := by
  obtain ⟨F, G, hM, hR, hd, hF, hG, hN⟩ := h
  obtain ⟨cb, ct, ca, cp, cy, cg⟩ := c
  have hop : opC ⟨5, a, n, w, ⟨cb, ct, ca, cp, cy, cg⟩, l, ba, bc⟩ = #[.int .i64 5, .int .u64 (a : Int), .int .i64 n, .int .u64 w, .int .u64 cb, .int .u64 ct, .int .u64 ca, .int .i64 cp, .int .i64 cy, .bool cg, .slice ba l.length bc] := rfl
  rw [hop]
  obtain ⟨W0, hW0⟩ : ∃ W0, W.alloc (.cells #[.int .i64 5, .int .u64 (a : Int), .int .i64 n, .int .u64 w, .int .u64 cb, .int .u64 ct, .int .u64 ca, .int .i64 cp, .int .i64 cy, .bool cg, .slice ba l.length bc] 53) = W0 := ⟨_, rfl⟩
  have hb0 : Below W.heap.size W W0 := by rw [← hW0]; exact bAlloc (Below.refl _ _) _
  have HX0 : Hid (BoxN W0 W.heap.size #[.int .i64 5, .int .u64 (a : Int), .int .i64 n, .int .u64 w, .int .u64 cb, .int .u64 ct, .int .u64 ca, .int .i64 cp, .int .i64 cy, .bool cg, .slice ba l.length bc]) := Lib.hid (by rw [← hW0]; exact BoxN.new W _ _)
  have hz0 : W0.heap.size = W.heap.size + 1 := by rw [← hW0, size_alloc]
  have hSF : ¬ F W.heap.size := fun hf => by have := hM.lt _ hf; omega
  have hSG : ¬ G W.heap.size := fun hf => by have := hR.lt _ hf; omega
  obtain ⟨S, hS⟩ : ∃ S, W.heap.size = S := ⟨_, rfl⟩
  have hM0 := hM.below hb0
  have hR0 := hR.below hb0
  have hf0 := hf.below (hb0.mono hN)
  have hN0 : N ≤ W0.heap.size := by omega
  have HBN : Hid (Below N W W0) := Lib.hid (hb0.mono hN)
  obtain ⟨fa, fn0, fn1, fw0, fw1, fc, flb, fll, flm, frd, fbn⟩ := hf0
  simp only at fa fn0 fn1 fw0 fw1 fc flb fll flm frd fbn
  rw [hS] at HX0 hSF hSG hz0
  have HTB := Lib.hid (show Two W0 N M R m m from ⟨F, G, hM0, hR0, hd, hF, hG, hN0⟩)
  have w00 : W0.cell? ⟨S, 0, none⟩ = some (.int .i64 5) := HX0.out.cell 0
  have w01 : W0.cell? ⟨S, 1, none⟩ = some (.int .u64 (a : Int)) := HX0.out.cell 1
  have w010 : W0.cell? ⟨S, 10, none⟩ = some (.slice ba l.length bc) := HX0.out.cell 10
  by_cases hl6 : 600 < l.length
  · rw [if_pos hl6]
    have hlz : (600 : Int) < (l.length : Int) := by omega
    clear hM hR hb0 hM0 hf hR0 frd fbn flb fc hop
    go_enter Try.func29, Try.ntmps29
    go_upto_region 1 with fail
    (try simp only [hW0, hS])
    clear hW0 hS
    go_wp2_with fail
    go_ret
    exact ⟨rfl, HTB.out, HBN.out⟩
  · rw [if_neg hl6]
    have hlz : ¬ (600 : Int) < (l.length : Int) := by omega
    obtain ⟨ln, hln⟩ : ∃ n, l.length = n := ⟨_, rfl⟩
    rw [hln] at fll flm frd fbn w010 hl6 hlz
    rw [hln] at HX0 hW0
    rw [hln]
    have HC1 := Lib.hid (putA_any W0 M F m hM0 a ln bc ba l fa hln fll (by omega) flb frd (fun h0 g off e hf => by have := hF g hf; have := fbn h0 g off e; omega))
    have HC2 := Lib.hid (fun W1 (h1 : RmAt W1 R G m) (hr : Rd W1 ba ln (u8s l)) => rputA_any W1 R G m h1 a ln bc ba l fa hln (by omega) flb hr (fun h0 g off e hf => by have := hG g hf; have := fbn h0 g off e; omega))
    have HR0 := Lib.hid hR0
    have HRD := Lib.hid frd
    have HBB := Lib.hid fbn
    obtain ⟨e1, he1⟩ : ∃ e, (putF m (a : Int) l).2 = e := ⟨_, rfl⟩
    rw [he1] at HC1 HC2
    clear hM hR hb0 hM0 hf hR0 frd fbn flb fc hop he1 hln
    go_enter Try.func29, Try.ntmps29
    go_upto_region 1 with fail
    (try simp only [hW0, hS])
    clear hW0 hS
    go_wp2_with fail
    refine HC1.out.mono ?_; rintro e W1 ⟨rfl, hM1, hk1⟩
    have hR1 := HR0.out.kp hk1 (Nat.le_refl _) (fun b hb hf => hd b hf hb)
    have HX1 := Lib.hid (HX0.out.kp hk1 (by omega) hSF)
    have hr1 := step_rd hk1 hF HRD.out HBB.out
    have HD := Lib.hid (HC2.out W1 hR1 hr1)
    have HTS := Lib.hid (fun W2 r1 (h2 : RmAt W2 R (FN G W1 W2) r1) (hk2 : KP W1.heap.size G W1 W2) => two_step HR0.out hd hF hG hN0 hM1 (fun b hb => Or.inl hb) hk1 h2 hk2)
    have w11 : W1.cell? ⟨S, 1, none⟩ = some (.int .u64 (a : Int)) := HX1.out.cell 1
    have w110 : W1.cell? ⟨S, 10, none⟩ = some (.slice ba ln bc) := HX1.out.cell 10
    clear hR1 hM1 hk1 HC1 HC2 hr1
    go_wp2_with fail
    refine HD.out.mono ?_; rintro e W2 ⟨rfl, hR2, hk2⟩
    have h3 := HTS.out W2 _ hR2 hk2
    have H3 := Lib.hid h3
    clear h3 hR2 hk2 HTS HD
    go_wp2_with fail
    go_ret
    exact ⟨by simp, H3.out.1, HBN.out.trans H3.out.2⟩
set_option maxRecDepth 100000 in
set_option maxHeartbeats 2000000 in
theorem one6 (W : World) (N M R : Nat) (m : Mm) (h : Two W N M R m m) (a : Nat) (n w : Int) (c : Cp) (l : List Nat) (ba : Option Addr) (bc : Nat) (hf : FitO W N ⟨6, a, n, w, c, l, ba, bc⟩) :
    Calls Try.prog 29 #[.pointer (some ⟨M, 0, none⟩), .pointer (some ⟨R, 0, none⟩), .agg (opC ⟨6, a, n, w, c, l, ba, bc⟩)] W fun e W' => e = .returned (.bool true) ∧ Two W' N M R m m ∧ Below N W W' := by
  obtain ⟨F, G, hM, hR, hd, hF, hG, hN⟩ := h
  obtain ⟨cb, ct, ca, cp, cy, cg⟩ := c
  have hop : opC ⟨6, a, n, w, ⟨cb, ct, ca, cp, cy, cg⟩, l, ba, bc⟩ = #[.int .i64 6, .int .u64 (a : Int), .int .i64 n, .int .u64 w, .int .u64 cb, .int .u64 ct, .int .u64 ca, .int .i64 cp, .int .i64 cy, .bool cg, .slice ba l.length bc] := rfl
  rw [hop]
  obtain ⟨W0, hW0⟩ : ∃ W0, W.alloc (.cells #[.int .i64 6, .int .u64 (a : Int), .int .i64 n, .int .u64 w, .int .u64 cb, .int .u64 ct, .int .u64 ca, .int .i64 cp, .int .i64 cy, .bool cg, .slice ba l.length bc] 53) = W0 := ⟨_, rfl⟩
  have hb0 : Below W.heap.size W W0 := by rw [← hW0]; exact bAlloc (Below.refl _ _) _
  have HX0 : Hid (BoxN W0 W.heap.size #[.int .i64 6, .int .u64 (a : Int), .int .i64 n, .int .u64 w, .int .u64 cb, .int .u64 ct, .int .u64 ca, .int .i64 cp, .int .i64 cy, .bool cg, .slice ba l.length bc]) := Lib.hid (by rw [← hW0]; exact BoxN.new W _ _)
  have hz0 : W0.heap.size = W.heap.size + 1 := by rw [← hW0, size_alloc]
  have hSF : ¬ F W.heap.size := fun hf => by have := hM.lt _ hf; omega
  have hSG : ¬ G W.heap.size := fun hf => by have := hR.lt _ hf; omega
  obtain ⟨S, hS⟩ : ∃ S, W.heap.size = S := ⟨_, rfl⟩
  have hM0 := hM.below hb0
  have hR0 := hR.below hb0
  have hf0 := hf.below (hb0.mono hN)
  have hN0 : N ≤ W0.heap.size := by omega
  have HBN : Hid (Below N W W0) := Lib.hid (hb0.mono hN)
  obtain ⟨fa, fn0, fn1, fw0, fw1, fc, flb, fll, flm, frd, fbn⟩ := hf0
  simp only at fa fn0 fn1 fw0 fw1 fc flb fll flm frd fbn
  rw [hS] at HX0 hSF hSG hz0
  obtain ⟨B, D, pb, hO⟩ := id hM0
  have HC1 := Lib.hid (load_any W0 M B D pb F m hO a n fa)
  have HC2 := Lib.hid (rload_any W0 R G m hR0 a n fa)
  have HTB := Lib.hid (show Two W0 N M R m m from ⟨F, G, hM0, hR0, hd, hF, hG, hN0⟩)
  have w00 : W0.cell? ⟨S, 0, none⟩ = some (.int .i64 6) := HX0.out.cell 0
  have w01 : W0.cell? ⟨S, 1, none⟩ = some (.int .u64 (a : Int)) := HX0.out.cell 1
  have w02 : W0.cell? ⟨S, 2, none⟩ = some (.int .i64 n) := HX0.out.cell 2
  obtain ⟨⟨x1, e1⟩, he1⟩ : ∃ e, loadF m (a : Int) n = e := ⟨_, rfl⟩
  rw [he1] at HC1 HC2
  clear hM hR hb0 hM0 hf hR0 frd fbn flb fc hop he1 hO
  go_enter Try.func29, Try.ntmps29
  go_upto_region 1 with fail
  (try simp only [hW0, hS])
  clear hW0 hS
  go_wp2_with fail
  refine HC1.out.mono ?_; rintro e W1 ⟨rfl, rfl⟩
  go_wp2_with fail
  refine HC2.out.mono ?_; rintro e W2 ⟨rfl, hb2⟩
  have h3 := two_below HTB.out hb2
  have H3 := Lib.hid h3
  clear h3 hb2
  go_wp2_with fail
  go_ret
  exact ⟨by simp, H3.out.1, HBN.out.trans H3.out.2⟩
set_option maxRecDepth 100000 in
set_option maxHeartbeats 2000000 in
theorem one7 (W : World) (N M R : Nat) (m : Mm) (h : Two W N M R m m) (a : Nat) (n w : Int) (c : Cp) (l : List Nat) (ba : Option Addr) (bc : Nat) (hf : FitO W N ⟨7, a, n, w, c, l, ba, bc⟩) :
    Calls Try.prog 29 #[.pointer (some ⟨M, 0, none⟩), .pointer (some ⟨R, 0, none⟩), .agg (opC ⟨7, a, n, w, c, l, ba, bc⟩)] W fun e W' => e = .returned (.bool true) ∧ Two W' N M R m m ∧ Below N W W' := by
  obtain ⟨F, G, hM, hR, hd, hF, hG, hN⟩ := h
  obtain ⟨cb, ct, ca, cp, cy, cg⟩ := c
  have hop : opC ⟨7, a, n, w, ⟨cb, ct, ca, cp, cy, cg⟩, l, ba, bc⟩ = #[.int .i64 7, .int .u64 (a : Int), .int .i64 n, .int .u64 w, .int .u64 cb, .int .u64 ct, .int .u64 ca, .int .i64 cp, .int .i64 cy, .bool cg, .slice ba l.length bc] := rfl
  rw [hop]
  obtain ⟨W0, hW0⟩ : ∃ W0, W.alloc (.cells #[.int .i64 7, .int .u64 (a : Int), .int .i64 n, .int .u64 w, .int .u64 cb, .int .u64 ct, .int .u64 ca, .int .i64 cp, .int .i64 cy, .bool cg, .slice ba l.length bc] 53) = W0 := ⟨_, rfl⟩
  have hb0 : Below W.heap.size W W0 := by rw [← hW0]; exact bAlloc (Below.refl _ _) _
  have HX0 : Hid (BoxN W0 W.heap.size #[.int .i64 7, .int .u64 (a : Int), .int .i64 n, .int .u64 w, .int .u64 cb, .int .u64 ct, .int .u64 ca, .int .i64 cp, .int .i64 cy, .bool cg, .slice ba l.length bc]) := Lib.hid (by rw [← hW0]; exact BoxN.new W _ _)
  have hz0 : W0.heap.size = W.heap.size + 1 := by rw [← hW0, size_alloc]
  have hSF : ¬ F W.heap.size := fun hf => by have := hM.lt _ hf; omega
  have hSG : ¬ G W.heap.size := fun hf => by have := hR.lt _ hf; omega
  obtain ⟨S, hS⟩ : ∃ S, W.heap.size = S := ⟨_, rfl⟩
  have hM0 := hM.below hb0
  have hR0 := hR.below hb0
  have hf0 := hf.below (hb0.mono hN)
  have hN0 : N ≤ W0.heap.size := by omega
  have HBN : Hid (Below N W W0) := Lib.hid (hb0.mono hN)
  obtain ⟨fa, fn0, fn1, fw0, fw1, fc, flb, fll, flm, frd, fbn⟩ := hf0
  simp only at fa fn0 fn1 fw0 fw1 fc flb fll flm frd fbn
  rw [hS] at HX0 hSF hSG hz0
  obtain ⟨B, D, pb, hO⟩ := id hM0
  have HC1 := Lib.hid (loadC_any W0 M B D pb F m hO a fa)
  have HC2 := Lib.hid (fun W1 (h1 : RmAt W1 R G m) => rloadC_any W1 R G m h1 a fa)
  have HR0 := Lib.hid hR0
  have HTB := Lib.hid (show Two W0 N M R m m from ⟨F, G, hM0, hR0, hd, hF, hG, hN0⟩)
  have w00 : W0.cell? ⟨S, 0, none⟩ = some (.int .i64 7) := HX0.out.cell 0
  have w01 : W0.cell? ⟨S, 1, none⟩ = some (.int .u64 (a : Int)) := HX0.out.cell 1
  obtain ⟨⟨⟨y0, y1, y2, y3, y4, y5⟩, e1⟩, he1⟩ : ∃ e, loadC m (a : Int) = e := ⟨_, rfl⟩
  have hcc : (capC ⟨y0, y1, y2, y3, y4, y5⟩).toArray = #[.int .u64 y0, .int .u64 y1, .int .u64 y2, .int .i64 y3, .int .i64 y4, .bool y5] := rfl
  rw [he1] at HC1
  simp only [he1] at HC2
  simp only [hcc] at HC1 HC2
  clear hM hR hb0 hM0 hf hR0 frd fbn flb fc hop he1 hO hcc
  go_enter Try.func29, Try.ntmps29
  go_upto_region 1 with fail
  (try simp only [hW0, hS])
  clear hW0 hS
  go_wp2_with fail
  refine HC1.out.mono ?_; rintro e W1 ⟨rfl, hb1⟩
  have HX1 := Lib.hid (boxN_below HX0.out hb1)
  have HB1 := Lib.hid hb1
  have HR1 := Lib.hid (HR0.out.below hb1)
  have hz1 := hb1.size
  have hbA : Below W1.heap.size W1 (W1.alloc (.cells #[.int .u64 y0, .int .u64 y1, .int .u64 y2, .int .i64 y3, .int .i64 y4, .bool y5] 41)) := bAlloc (Below.refl _ _) _
  have HA1 := Lib.hid (BoxN.new W1 #[.int .u64 y0, .int .u64 y1, .int .u64 y2, .int .i64 y3, .int .i64 y4, .bool y5] 41)
  have HBA := Lib.hid hbA
  have HD := Lib.hid (HC2.out _ (HR1.out.below hbA))
  have w1a : (W1.alloc (.cells #[.int .u64 y0, .int .u64 y1, .int .u64 y2, .int .i64 y3, .int .i64 y4, .bool y5] 41)).cell? ⟨S, 1, none⟩ = some (.int .u64 (a : Int)) := (boxN_below HX1.out hbA).cell 1
  clear hb1 hbA HC1 HC2
  go_wp2_with fail
  refine HD.out.mono ?_; rintro e W3 ⟨rfl, hb3⟩
  have HA3 := Lib.hid (boxN_below HA1.out hb3)
  have hbB : Below W3.heap.size W3 (W3.alloc (.cells #[.int .u64 y0, .int .u64 y1, .int .u64 y2, .int .i64 y3, .int .i64 y4, .bool y5] 41)) := bAlloc (Below.refl _ _) _
  have hA4 := boxN_below HA3.out hbB
  have hB4 := BoxN.new W3 #[.int .u64 y0, .int .u64 y1, .int .u64 y2, .int .i64 y3, .int .i64 y4, .bool y5] 41
  have h3 := two_below HTB.out (bTrans HB1.out (bTrans HBA.out (bTrans hb3 hbB)))
  have H3 := Lib.hid h3
  have p0 : (W3.alloc (.cells #[.int .u64 y0, .int .u64 y1, .int .u64 y2, .int .i64 y3, .int .i64 y4, .bool y5] 41)).cell? ⟨W1.heap.size, 0, none⟩ = some (.int .u64 y0) := hA4.cell 0
  have q0 : (W3.alloc (.cells #[.int .u64 y0, .int .u64 y1, .int .u64 y2, .int .i64 y3, .int .i64 y4, .bool y5] 41)).cell? ⟨W3.heap.size, 0, none⟩ = some (.int .u64 y0) := hB4.cell 0
  have p1 : (W3.alloc (.cells #[.int .u64 y0, .int .u64 y1, .int .u64 y2, .int .i64 y3, .int .i64 y4, .bool y5] 41)).cell? ⟨W1.heap.size, 1, none⟩ = some (.int .u64 y1) := hA4.cell 1
  have q1 : (W3.alloc (.cells #[.int .u64 y0, .int .u64 y1, .int .u64 y2, .int .i64 y3, .int .i64 y4, .bool y5] 41)).cell? ⟨W3.heap.size, 1, none⟩ = some (.int .u64 y1) := hB4.cell 1
  have p2 : (W3.alloc (.cells #[.int .u64 y0, .int .u64 y1, .int .u64 y2, .int .i64 y3, .int .i64 y4, .bool y5] 41)).cell? ⟨W1.heap.size, 2, none⟩ = some (.int .u64 y2) := hA4.cell 2
  have q2 : (W3.alloc (.cells #[.int .u64 y0, .int .u64 y1, .int .u64 y2, .int .i64 y3, .int .i64 y4, .bool y5] 41)).cell? ⟨W3.heap.size, 2, none⟩ = some (.int .u64 y2) := hB4.cell 2
  have p3 : (W3.alloc (.cells #[.int .u64 y0, .int .u64 y1, .int .u64 y2, .int .i64 y3, .int .i64 y4, .bool y5] 41)).cell? ⟨W1.heap.size, 3, none⟩ = some (.int .i64 y3) := hA4.cell 3
  have q3 : (W3.alloc (.cells #[.int .u64 y0, .int .u64 y1, .int .u64 y2, .int .i64 y3, .int .i64 y4, .bool y5] 41)).cell? ⟨W3.heap.size, 3, none⟩ = some (.int .i64 y3) := hB4.cell 3
  have p4 : (W3.alloc (.cells #[.int .u64 y0, .int .u64 y1, .int .u64 y2, .int .i64 y3, .int .i64 y4, .bool y5] 41)).cell? ⟨W1.heap.size, 4, none⟩ = some (.int .i64 y4) := hA4.cell 4
  have q4 : (W3.alloc (.cells #[.int .u64 y0, .int .u64 y1, .int .u64 y2, .int .i64 y3, .int .i64 y4, .bool y5] 41)).cell? ⟨W3.heap.size, 4, none⟩ = some (.int .i64 y4) := hB4.cell 4
  have p5 : (W3.alloc (.cells #[.int .u64 y0, .int .u64 y1, .int .u64 y2, .int .i64 y3, .int .i64 y4, .bool y5] 41)).cell? ⟨W1.heap.size, 5, none⟩ = some (.bool y5) := hA4.cell 5
  have q5 : (W3.alloc (.cells #[.int .u64 y0, .int .u64 y1, .int .u64 y2, .int .i64 y3, .int .i64 y4, .bool y5] 41)).cell? ⟨W3.heap.size, 5, none⟩ = some (.bool y5) := hB4.cell 5
  clear hA4 hB4 hb3 hbB h3 HD
  go_wp2_with fail
  go_ret
  exact ⟨by simp, H3.out.1, HBN.out.trans H3.out.2⟩
set_option maxRecDepth 100000 in
set_option maxHeartbeats 2000000 in
theorem one8 (W : World) (N M R : Nat) (m : Mm) (h : Two W N M R m m) (a : Nat) (n w : Int) (c : Cp) (l : List Nat) (ba : Option Addr) (bc : Nat) (hf : FitO W N ⟨8, a, n, w, c, l, ba, bc⟩) :
    Calls Try.prog 29 #[.pointer (some ⟨M, 0, none⟩), .pointer (some ⟨R, 0, none⟩), .agg (opC ⟨8, a, n, w, c, l, ba, bc⟩)] W fun e W' => e = .returned (.bool true) ∧ Two W' N M R m m ∧ Below N W W' := by
  obtain ⟨F, G, hM, hR, hd, hF, hG, hN⟩ := h
  obtain ⟨cb, ct, ca, cp, cy, cg⟩ := c
  have hop : opC ⟨8, a, n, w, ⟨cb, ct, ca, cp, cy, cg⟩, l, ba, bc⟩ = #[.int .i64 8, .int .u64 (a : Int), .int .i64 n, .int .u64 w, .int .u64 cb, .int .u64 ct, .int .u64 ca, .int .i64 cp, .int .i64 cy, .bool cg, .slice ba l.length bc] := rfl
  rw [hop]
  obtain ⟨W0, hW0⟩ : ∃ W0, W.alloc (.cells #[.int .i64 8, .int .u64 (a : Int), .int .i64 n, .int .u64 w, .int .u64 cb, .int .u64 ct, .int .u64 ca, .int .i64 cp, .int .i64 cy, .bool cg, .slice ba l.length bc] 53) = W0 := ⟨_, rfl⟩
  have hb0 : Below W.heap.size W W0 := by rw [← hW0]; exact bAlloc (Below.refl _ _) _
  have HX0 : Hid (BoxN W0 W.heap.size #[.int .i64 8, .int .u64 (a : Int), .int .i64 n, .int .u64 w, .int .u64 cb, .int .u64 ct, .int .u64 ca, .int .i64 cp, .int .i64 cy, .bool cg, .slice ba l.length bc]) := Lib.hid (by rw [← hW0]; exact BoxN.new W _ _)
  have hz0 : W0.heap.size = W.heap.size + 1 := by rw [← hW0, size_alloc]
  have hSF : ¬ F W.heap.size := fun hf => by have := hM.lt _ hf; omega
  have hSG : ¬ G W.heap.size := fun hf => by have := hR.lt _ hf; omega
  obtain ⟨S, hS⟩ : ∃ S, W.heap.size = S := ⟨_, rfl⟩
  have hM0 := hM.below hb0
  have hR0 := hR.below hb0
  have hf0 := hf.below (hb0.mono hN)
  have hN0 : N ≤ W0.heap.size := by omega
  have HBN : Hid (Below N W W0) := Lib.hid (hb0.mono hN)
  obtain ⟨fa, fn0, fn1, fw0, fw1, fc, flb, fll, flm, frd, fbn⟩ := hf0
  simp only at fa fn0 fn1 fw0 fw1 fc flb fll flm frd fbn
  rw [hS] at HX0 hSF hSG hz0
  have HTB := Lib.hid (show Two W0 N M R m m from ⟨F, G, hM0, hR0, hd, hF, hG, hN0⟩)
  have w00 : W0.cell? ⟨S, 0, none⟩ = some (.int .i64 8) := HX0.out.cell 0
  have w01 : W0.cell? ⟨S, 1, none⟩ = some (.int .u64 (a : Int)) := HX0.out.cell 1
  have w02 : W0.cell? ⟨S, 2, none⟩ = some (.int .i64 n) := HX0.out.cell 2
  by_cases hl6 : 600 < n
  · clear hM hR hb0 hM0 hf hR0 frd fbn flb fc hop
    go_enter Try.func29, Try.ntmps29
    go_upto_region 1 with fail
    (try simp only [hW0, hS])
    clear hW0 hS
    go_wp2_with fail
    go_ret
    exact ⟨rfl, HTB.out, HBN.out⟩
  · obtain ⟨bl, hbl⟩ : ∃ bl, bytesF m (a : Int) n = bl := ⟨_, rfl⟩
    have hble : bl.length ≤ 600 := by
      rw [← hbl]
      unfold bytesF
      split
      · simp
      · split
        · rw [manyB_len]; omega
        · simp
    have HC1 := Lib.hid (fun W1 (hb : Below W0.heap.size W0 W1) => by
      obtain ⟨B, D, pb, hO⟩ := hM0.below hb
      exact bytes_any W1 M B D pb F m hO a n fa fn0 fn1)
    have HC2 := Lib.hid (fun W1 (hb : Below W0.heap.size W0 W1) => rbytes_any W1 R G m (hR0.below hb) a n fa)
    simp only [hbl] at HC1 HC2
    obtain ⟨ln, hln⟩ : ∃ n, bl.length = n := ⟨_, rfl⟩
    rw [hln] at hble
    simp only [hln] at HC1 HC2
    clear hM hR hb0 hM0 hf hR0 frd fbn flb fc hop hbl
    have H0 := Lib.hid (Below.refl W0.heap.size W0)
    have HW := Lib.hid w01
    have HW2 := Lib.hid w02
    go_enter Try.func29, Try.ntmps29
    go_upto_region 1 with fail
    (try simp only [hW0, hS])
    clear hW0 hS
    go_wp2_with fail
    have HBD : Hid (Below W0.heap.size W0 W0.drew) := Lib.hid (below_dN W0 1)
    have k1 : ∀ W1, Below W0.heap.size W0 W1 → W1.cell? ⟨S, 1, none⟩ = some (.int .u64 (a : Int)) ∧ W1.cell? ⟨S, 2, none⟩ = some (.int .i64 n) := fun W1 hb => ⟨(boxN_below HX0.out hb).cell 1, (boxN_below HX0.out hb).cell 2⟩
    have K1 := Lib.hid k1
    clear k1
    go_region_held3 (fun W => W.cell? ⟨S, 1, none⟩ = some (.int .u64 (a : Int)) ∧ W.cell? ⟨S, 2, none⟩ = some (.int .i64 n))
      (first | with_reducible exact K1.out _ HBD.out | with_reducible exact K1.out _ H1.out | with_reducible exact K1.out _ H2.out | with_reducible exact K1.out _ H3.out | with_reducible exact K1.out _ H0.out | go_keep)
      (first
        | (go_at_call 23; (with_reducible refine (HC1.out _ HBD.out).mono ?_); rintro e W1 ⟨⟨ra, rc, rfl, hown1⟩, hb1⟩; have H1 := Lib.hid (bTrans HBD.out hb1); have HO1 := Lib.hid hown1; clear hown1 hb1)
        | (go_at_call 48; (with_reducible refine (HC2.out _ H1.out).mono ?_); rintro e W2 ⟨⟨rb, rd, rfl, hown2⟩, hb2⟩; have H2 := Lib.hid (bTrans H1.out hb2); have HR1 := Lib.hid (show Rd W2 ra ln (u8s bl) by have := own_rd (own_kp2 HO1.out (KP.of_below (fun _ => False) hb2) (fun _ _ => id)); rwa [Nat.mul_one] at this); have HR2 := Lib.hid (show Rd W2 rb ln (u8s bl) by have := own_rd hown2; rwa [Nat.mul_one] at this); clear hown2 hb2)
        | (go_at_call 27; (with_reducible refine (same_any ra rb ln rc ln rd bl bl _ HR1.out HR2.out (by omega) (by omega)).mono ?_); rintro e W3 ⟨rfl, hq⟩; have H3 := Lib.hid (show Below W0.heap.size W0 W3 from by obtain ⟨k, rfl⟩ := hq; exact bTrans H2.out (below_dN _ _)); clear hq))
    all_goals
      have h4 := two_below HTB.out H3.out
      have H4 := Lib.hid h4
      clear h4
      go_wp2_with fail
      go_ret
      exact ⟨by simp, H4.out.1, HBN.out.trans H4.out.2⟩
set_option maxRecDepth 100000 in
set_option maxHeartbeats 2000000 in
theorem oneD (W : World) (N M R : Nat) (m : Mm) (h : Two W N M R m m) (a : Nat) (n w : Int) (c : Cp) (l : List Nat) (ba : Option Addr) (bc : Nat) (dd : Int) (h1 : dd ≠ 1) (h2 : dd ≠ 2) (h3 : dd ≠ 3) (h4 : dd ≠ 4) (h5 : dd ≠ 5) (h6 : dd ≠ 6) (h7 : dd ≠ 7) (h8 : dd ≠ 8) (hf : FitO W N ⟨dd, a, n, w, c, l, ba, bc⟩) :
    Calls Try.prog 29 #[.pointer (some ⟨M, 0, none⟩), .pointer (some ⟨R, 0, none⟩), .agg (opC ⟨dd, a, n, w, c, l, ba, bc⟩)] W fun e W' => e = .returned (.bool true) ∧ Two W' N M R m m ∧ Below N W W' := by
  obtain ⟨F, G, hM, hR, hd, hF, hG, hN⟩ := h
  obtain ⟨cb, ct, ca, cp, cy, cg⟩ := c
  have hop : opC ⟨dd, a, n, w, ⟨cb, ct, ca, cp, cy, cg⟩, l, ba, bc⟩ = #[.int .i64 dd, .int .u64 (a : Int), .int .i64 n, .int .u64 w, .int .u64 cb, .int .u64 ct, .int .u64 ca, .int .i64 cp, .int .i64 cy, .bool cg, .slice ba l.length bc] := rfl
  rw [hop]
  obtain ⟨W0, hW0⟩ : ∃ W0, W.alloc (.cells #[.int .i64 dd, .int .u64 (a : Int), .int .i64 n, .int .u64 w, .int .u64 cb, .int .u64 ct, .int .u64 ca, .int .i64 cp, .int .i64 cy, .bool cg, .slice ba l.length bc] 53) = W0 := ⟨_, rfl⟩
  have hb0 : Below W.heap.size W W0 := by rw [← hW0]; exact bAlloc (Below.refl _ _) _
  have HX0 : Hid (BoxN W0 W.heap.size #[.int .i64 dd, .int .u64 (a : Int), .int .i64 n, .int .u64 w, .int .u64 cb, .int .u64 ct, .int .u64 ca, .int .i64 cp, .int .i64 cy, .bool cg, .slice ba l.length bc]) := Lib.hid (by rw [← hW0]; exact BoxN.new W _ _)
  have hz0 : W0.heap.size = W.heap.size + 1 := by rw [← hW0, size_alloc]
  have hSF : ¬ F W.heap.size := fun hf => by have := hM.lt _ hf; omega
  have hSG : ¬ G W.heap.size := fun hf => by have := hR.lt _ hf; omega
  obtain ⟨S, hS⟩ : ∃ S, W.heap.size = S := ⟨_, rfl⟩
  have hM0 := hM.below hb0
  have hR0 := hR.below hb0
  have hf0 := hf.below (hb0.mono hN)
  have hN0 : N ≤ W0.heap.size := by omega
  have HBN : Hid (Below N W W0) := Lib.hid (hb0.mono hN)
  obtain ⟨fa, fn0, fn1, fw0, fw1, fc, flb, fll, flm, frd, fbn⟩ := hf0
  simp only at fa fn0 fn1 fw0 fw1 fc flb fll flm frd fbn
  rw [hS] at HX0 hSF hSG hz0
  have HTB := Lib.hid (show Two W0 N M R m m from ⟨F, G, hM0, hR0, hd, hF, hG, hN0⟩)
  have w00 : W0.cell? ⟨S, 0, none⟩ = some (.int .i64 dd) := HX0.out.cell 0
  clear hM hR hb0 hM0 hf hR0 frd fbn flb fc hop
  go_enter Try.func29, Try.ntmps29
  go_upto_region 1 with fail
  (try simp only [hW0, hS])
  clear hW0 hS
  go_wp2_with fail
  go_ret
  exact ⟨rfl, HTB.out, HBN.out⟩
end Go.Proofs.Ytgfkjlknkbdjiaa

namespace Go.Proofs.Ytgfkjlknkbdjiaa
set_option linter.unusedVariables false
set_option linter.unusedSimpArgs false
open Go.Joins Go.ChangeShapes Go.WideShapes Go.ChangeAt Go.RowKit Go.Deep

theorem one_any (W : World) (N M R : Nat) (m : Mm) (h : Two W N M R m m) (o : Opr) (hf : FitO W N o) :
    Calls Try.prog 29 #[.pointer (some ⟨M, 0, none⟩), .pointer (some ⟨R, 0, none⟩), .agg (opC o)] W fun e W' => e = .returned (.bool true) ∧ Two W' N M R (stepM m o) (stepM m o) ∧ Below N W W' := by
  obtain ⟨d, a, n, w, c, l, ba, bc⟩ := o
  by_cases h1 : d = 1
  · subst h1
    rw [show stepM m ⟨1, a, n, w, c, l, ba, bc⟩ = (mapF m a n).1 from if_pos rfl]
    exact one1 W N M R m h a n w c l ba bc hf
  by_cases h2 : d = 2
  · subst h2
    rw [show stepM m ⟨2, a, n, w, c, l, ba, bc⟩ = (unmapF m a n).1 by simp [stepM]]
    exact one2 W N M R m h a n w c l ba bc hf
  by_cases h3 : d = 3
  · subst h3
    rw [show stepM m ⟨3, a, n, w, c, l, ba, bc⟩ = (storeF m a n w).1 by simp [stepM]]
    exact one3 W N M R m h a n w c l ba bc hf
  by_cases h4 : d = 4
  · subst h4
    rw [show stepM m ⟨4, a, n, w, c, l, ba, bc⟩ = (if rightB c then (storeC m a c).1 else m) by simp [stepM]]
    exact one4 W N M R m h a n w c l ba bc hf
  by_cases h5 : d = 5
  · subst h5
    rw [show stepM m ⟨5, a, n, w, c, l, ba, bc⟩ = (if 600 < l.length then m else (putF m a l).1) by simp [stepM]]
    exact one5 W N M R m h a n w c l ba bc hf
  rw [show stepM m ⟨d, a, n, w, c, l, ba, bc⟩ = m by unfold stepM; rw [if_neg h1, if_neg h2, if_neg h3, if_neg h4, if_neg h5]]
  by_cases h6 : d = 6
  · subst h6
    exact one6 W N M R m h a n w c l ba bc hf
  by_cases h7 : d = 7
  · subst h7
    exact one7 W N M R m h a n w c l ba bc hf
  by_cases h8 : d = 8
  · subst h8
    exact one8 W N M R m h a n w c l ba bc hf
  exact oneD W N M R m h a n w c l ba bc d h1 h2 h3 h4 h5 h6 h7 h8 hf
/-- a row of calls, below N -/
structure RdP (W : World) (N : Nat) (a : Option Addr) (l : List Opr) : Prop where
  fit : ∀ o ∈ l, FitO W N o
  rd : 0 < l.length → ∃ b off, a = some ⟨b, off, none⟩ ∧ b < N ∧ b < W.heap.size ∧ ∀ i (h : i < l.length) j, j < 11 → W.cell? ⟨b, off + i * 11 + j, none⟩ = (opC l[i])[j]?
theorem RdP.below {W W' : World} {N : Nat} {a : Option Addr} {l : List Opr} (h : RdP W N a l) (hb : Below N W W') : RdP W' N a l :=
  ⟨fun o ho => (h.fit o ho).below hb, fun h0 => by
    obtain ⟨b, off, e, h1, h2, h3⟩ := h.rd h0
    exact ⟨b, off, e, h1, Nat.lt_of_lt_of_le h2 hb.size, fun i hi j hj => (World.cell?_of_block (hb.block b h1)).trans (h3 i hi j hj)⟩⟩
theorem RdP.mono {W : World} {N N' : Nat} {a : Option Addr} {l : List Opr} (h : RdP W N a l) (hN : N ≤ N') : RdP W N' a l :=
  ⟨fun o ho => (h.fit o ho).mono hN, fun h0 => by
    obtain ⟨b, off, e, h1, h2, h3⟩ := h.rd h0
    exact ⟨b, off, e, Nat.lt_of_lt_of_le h1 hN, h2, h3⟩⟩
set_option maxRecDepth 100000 in
set_option maxHeartbeats 2000000 in
theorem play_any (W : World) (N M R : Nat) (m : Mm) (h : Two W N M R m m) (la : Option Addr) (lc : Nat) (l : List Opr) (hl : RdP W N la l) (hn : l.length ≤ 100000) :
    Calls Try.prog 13 #[.pointer (some ⟨M, 0, none⟩), .pointer (some ⟨R, 0, none⟩), .slice la l.length lc] W fun e W' => e = .returned (.bool true) ∧ Two W' N M R (l.foldl stepM m) (l.foldl stepM m) ∧ Below N W W' := by
  have HL := Lib.hid hl
  have H0 : Hid (Two W N M R ((l.take 0).foldl stepM m) ((l.take 0).foldl stepM m)) := Lib.hid h
  obtain ⟨n, hln⟩ : ∃ n, l.length = n := ⟨_, rfl⟩
  rw [hln] at hn ⊢
  have HLN := Lib.hid hln
  clear h hl hln
  go_enter Try.func13, Try.ntmps13
  go_wp2_with fail
  go_loopw [7] (fun i wr => ∃ k : Nat, i = .int .i64 k ∧ k ≤ n ∧ Hid (Two wr N M R ((l.take k).foldl stepM m) ((l.take k).foldl stepM m)) ∧ Hid (Below N W wr)) (fun i _ => n - (intOf i).toNat)
  case atStart => exact ⟨0, rfl, by omega, H0, Lib.hid (Below.refl _ _)⟩
  case round =>
    clear H0
    obtain ⟨k, rfl, hk, HT, HB⟩ := hrel
    by_cases hlt : k < n
    · have hkl : k < l.length := by rw [HLN.out]; exact hlt
      have hr := HL.out.below HB.out
      obtain ⟨b1, o1, e1, hb1, hb2, hc⟩ := hr.rd (by omega)
      have hfit := hr.fit _ (List.getElem_mem hkl)
      subst e1
      have hck := hc k hkl
      have htk : (l.take (k + 1)).foldl stepM m = stepM ((l.take k).foldl stepM m) l[k] := by
        rw [List.take_succ_eq_append_getElem hkl, List.foldl_append]
        rfl
      obtain ⟨o, ho⟩ : ∃ o, l[k] = o := ⟨_, rfl⟩
      rw [ho] at hfit hck htk
      have HC := Lib.hid (one_any wr N M R _ HT.out o hfit)
      rw [← htk] at HC
      obtain ⟨d, a, nn, w, ⟨cb, ct, ca, cp, cy, cg⟩, bl, ba, bc⟩ := o
      have hop : opC ⟨d, a, nn, w, ⟨cb, ct, ca, cp, cy, cg⟩, bl, ba, bc⟩ = #[.int .i64 d, .int .u64 (a : Int), .int .i64 nn, .int .u64 w, .int .u64 cb, .int .u64 ct, .int .u64 ca, .int .i64 cp, .int .i64 cy, .bool cg, .slice ba bl.length bc] := rfl
      rw [hop] at HC hck
      obtain ⟨q, hq⟩ : ∃ q, o1 + k * 11 = q := ⟨_, rfl⟩
      have c0 : wr.cell? ⟨b1, o1 + k * 11, none⟩ = some (.int .i64 d) := hck 0 (by decide)
      have c1 : wr.cell? ⟨b1, o1 + k * 11 + 1, none⟩ = some (.int .u64 (a : Int)) := hck 1 (by decide)
      have c2 : wr.cell? ⟨b1, o1 + k * 11 + 2, none⟩ = some (.int .i64 nn) := hck 2 (by decide)
      have c3 : wr.cell? ⟨b1, o1 + k * 11 + 3, none⟩ = some (.int .u64 w) := hck 3 (by decide)
      have c4 : wr.cell? ⟨b1, o1 + k * 11 + 4, none⟩ = some (.int .u64 cb) := hck 4 (by decide)
      have c5 : wr.cell? ⟨b1, o1 + k * 11 + 5, none⟩ = some (.int .u64 ct) := hck 5 (by decide)
      have c6 : wr.cell? ⟨b1, o1 + k * 11 + 6, none⟩ = some (.int .u64 ca) := hck 6 (by decide)
      have c7 : wr.cell? ⟨b1, o1 + k * 11 + 7, none⟩ = some (.int .i64 cp) := hck 7 (by decide)
      have c8 : wr.cell? ⟨b1, o1 + k * 11 + 8, none⟩ = some (.int .i64 cy) := hck 8 (by decide)
      have c9 : wr.cell? ⟨b1, o1 + k * 11 + 9, none⟩ = some (.bool cg) := hck 9 (by decide)
      have c10 : wr.cell? ⟨b1, o1 + k * 11 + 10, none⟩ = some (.slice ba bl.length bc) := hck 10 (by decide)
      have kk0 : (0 : Int) ≤ (k : Int) := by omega
      have kk1 : (k : Int) < (n : Int) := by omega
      clear hc hck hr hfit ho htk hop hb1 hb2 hq
      go_wp2_with fail
      refine HC.out.mono ?_; rintro e W2 ⟨rfl, ht, hb⟩
      have HT2 := Lib.hid ht
      have HB2 := Lib.hid (HB.out.trans hb)
      clear ht hb HC HT HB
      go_wp2_with fail
      go_roundw
      case rel => exact ⟨k + 1, by go_num, by omega, HT2, HB2⟩
      case measure => simp [intOf]; omega
    · obtain rfl : n = k := by omega
      have ht := HT.out
      rw [List.take_of_length_le (by rw [HLN.out]; exact Nat.le_refl _)] at ht
      have HT2 := Lib.hid ht
      clear ht HT
      go_wp2_with fail
      go_ret
      exact ⟨rfl, HT2.out, HB.out⟩
/-- what all calls make of an empty memory -/
def madeM (b : Int) (l : List Opr) : Mm := l.foldl stepM (emptyM b.toNat)
def noM (b : Int) (n : Nat) : Bool := badB b || decide (60 < n)
/-- one memory, in blocks from N on -/
def Solo (W : World) (N M : Nat) (m : Mm) : Prop := ∃ F, MemAt W M F m ∧ (∀ q, F q → N ≤ q) ∧ N ≤ W.heap.size
theorem Two.solo {W : World} {N M R : Nat} {m r : Mm} (h : Two W N M R m r) : Solo W N M m := by
  obtain ⟨F, G, h1, -, -, h4, -, h6⟩ := h
  exact ⟨F, h1, h4, h6⟩
theorem two_new {W W1 W2 : World} {M R : Nat} {m r : Mm} (h1 : MemAt W1 M (fun q => W.heap.size ≤ q ∧ q < W1.heap.size) m) (hb1 : Below W.heap.size W W1) (h2 : RmAt W2 R (fun q => W1.heap.size ≤ q ∧ q < W2.heap.size) r) (hb2 : Below W1.heap.size W1 W2) : Two W2 W.heap.size M R m r ∧ Below W.heap.size W W2 :=
  ⟨⟨_, _, h1.below hb2, h2, fun b h h' => by have := h.2; have := h'.1; omega, fun b h => h.1, fun b h => by have := h.1; have := hb1.size; omega, Nat.le_trans hb1.size hb2.size⟩, hb1.trans (hb2.mono hb1.size)⟩
set_option maxRecDepth 100000 in
set_option maxHeartbeats 2000000 in
theorem made_any (W : World) (b : Int) (la : Option Addr) (lc : Nat) (l : List Opr) (hl : RdP W W.heap.size la l) :
    Calls Try.prog 17 #[.int .i64 b, .slice la l.length lc] W fun e W' => ((noM b l.length = true ∧ e = .returned (.pointer none)) ∨ (noM b l.length = false ∧ ∃ M, e = .returned (.pointer (some ⟨M, 0, none⟩)) ∧ Solo W' W.heap.size M (madeM b l))) ∧ Below W.heap.size W W' := by
  have HL := Lib.hid hl
  have HPL := Lib.hid (fun W1 M R (h : Two W1 W.heap.size M R (emptyM b.toNat) (emptyM b.toNat)) (h2 : RdP W1 W.heap.size la l) (h3 : l.length ≤ 60) => play_any W1 W.heap.size M R (emptyM b.toNat) h la lc l h2 (by omega))
  obtain ⟨n, hln⟩ : ∃ n, l.length = n := ⟨_, rfl⟩
  rw [hln] at HPL ⊢
  have HN1 := Lib.hid (new_any b W)
  have HN2 := Lib.hid (fun W1 => rnew_any b W1)
  clear hl hln
  go_enter Try.func17, Try.ntmps17
  go_wp2_with fail
  refine HN1.out.mono ?_
  rintro e W1 (⟨hb, rfl, rfl⟩ | ⟨hb, M, rfl, hMM, hMA, hB1⟩)
  · have HBD := Lib.hid hb
    clear hb
    go_wp2_with fail
    refine (HN2.out _).mono ?_
    rintro e W2 (⟨hb2, rfl, rfl⟩ | ⟨hb2, _⟩)
    · clear hb2
      go_wp2_with fail
      go_ret
      exact ⟨Or.inl ⟨by unfold noM; rw [HBD.out]; rfl, rfl⟩, Below.refl _ _⟩
    · rw [HBD.out] at hb2
      cases hb2
  · have HBD := Lib.hid hb
    have HMA := Lib.hid hMA
    have HB1 := Lib.hid hB1
    clear hb hMA hB1
    go_wp2_with fail
    refine (HN2.out _).mono ?_
    rintro e W2 (⟨hb2, _⟩ | ⟨hb2, R, rfl, hRR, hRA, hB2⟩)
    · rw [HBD.out] at hb2
      cases hb2
    · have ht := two_new HMA.out HB1.out hRA hB2
      have HT := Lib.hid ht.1
      have HB := Lib.hid ht.2
      clear ht hRA hB2 hb2
      by_cases h60 : 60 < n
      · have h60z : (60 : Int) < (n : Int) := by omega
        go_wp2_with fail
        go_ret
        exact ⟨Or.inl ⟨by unfold noM; rw [decide_eq_true h60]; simp, rfl⟩, HB.out⟩
      · have h60z : ¬ (60 : Int) < (n : Int) := by omega
        have HP := Lib.hid (HPL.out W2 M R HT.out (HL.out.below HB.out) (by omega))
        go_wp2_with fail
        refine HP.out.mono ?_
        rintro e W3 ⟨rfl, hT3, hB3⟩
        have HT3 := Lib.hid hT3
        have HB3 := Lib.hid hB3
        clear hT3 hB3
        go_wp2_with fail
        go_ret
        exact ⟨Or.inr ⟨by unfold noM; rw [HBD.out, decide_eq_false h60]; rfl, M, rfl, HT3.out.solo⟩, HB.out.trans HB3.out⟩
end Go.Proofs.Ytgfkjlknkbdjiaa


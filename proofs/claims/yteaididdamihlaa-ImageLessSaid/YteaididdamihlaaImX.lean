/- Merged: ImA ImB ImC ImD. -/
import Derived.Test.YteaididdamihlaaTmSo
import Derived.Deep.AppendLies
import Derived.BigQuiet
import Derived.BigRegion
import Derived.Deep.RegionHeld3
import Derived.Test.YteaididdamihlaaTaB
import Derived.Defers
import Derived.Test.YteaididdamihlaaTmY
namespace Go.Proofs.Yteaididdamihlaa
set_option linter.unusedVariables false
set_option linter.unusedSimpArgs false
open Go.Joins Go.ChangeShapes Go.WideShapes Go.ChangeAt Go.RowKit Go.Deep

theorem infoRun : (Try.prog.info? 66).map (fun i => (i.zero, i.size, i.bytes)) = some (some (.agg #[.int .u64 0, .int .i64 0]), 2, 16) := by kernel_rfl
theorem undrewI {w w' : World} (h : Below w.drew.heap.size w.drew w') : Below w.heap.size w w' := ⟨h.os, h.tape, h.output, h.size, h.block⟩
theorem kp_undrew {S : Nat → Prop} {w w' : World} (h : KP w.drew.heap.size S w.drew w') : KP w.heap.size S w w' := ⟨h.os, h.tape, h.output, h.size, h.block⟩
set_option maxHeartbeats 2000000 in
set_option maxRecDepth 100000 in
theorem add_one (W : World) (N M : Nat) (F : Nat → Prop) (m m1 : Mm) (X : Nat) (f n : Int) (h : Own1 W N F M m) (hX : BoxN W X #[.pointer (some ⟨M, 0, none⟩), .slice none 0 0, .bool false]) (hXF : ¬ F X) (hm : mapF m f n = (m1, 0)) (hf0 : 0 ≤ f) (hf1 : f < 18446744073709551616) (hn0 : -9223372036854775808 ≤ n) (hn1 : n < 9223372036854775808) :
    Calls Try.prog 28 #[.pointer (some ⟨X, 0, none⟩), .agg #[.int .u64 f, .int .i64 n]] W fun e W' => e = .returned (.int .i64 0) ∧ ∃ F' a c, Own1 W' N F' M m1 ∧ BoxN W' X #[.pointer (some ⟨M, 0, none⟩), .slice a 1 c, .bool false] ∧ (∀ b, F' b → F b ∨ W.heap.size ≤ b) ∧ KP W.heap.size (fun b => F b ∨ b = X) W W' := by
  have hXl := hX.lt
  obtain ⟨W0, hW0⟩ : ∃ W0, W.alloc (.cells #[.int .u64 f, .int .i64 n] 66) = W0 := ⟨_, rfl⟩
  have hb0 : Below W.heap.size W W0 := by rw [← hW0]; exact bAlloc (Below.refl _ _) _
  have HR0 : Hid (BoxN W0 W.heap.size #[.int .u64 f, .int .i64 n]) := Lib.hid (by rw [← hW0]; exact BoxN.new W _ _)
  have HX0 := Lib.hid (boxN_below hX hb0)
  have O0 := Lib.hid (h.below hb0)
  have hz0 : W0.heap.size = W.heap.size + 1 := by rw [← hW0, size_alloc]
  have hSF : ¬ F W.heap.size := fun hf => by have := h.lt _ hf; omega
  have HB0 := Lib.hid hb0
  obtain ⟨S, hS⟩ : ∃ S, W.heap.size = S := ⟨_, rfl⟩
  have HXL : Hid (X < S) := Lib.hid (by omega)
  have HN : Hid (N ≤ S) := Lib.hid (by have := h.sz; omega)
  rw [hS] at HR0 hSF hz0 HB0
  have C := Lib.hid (fun W1 (h1 : Own1 W1 N F M m) => smap_any W1 N M F m h1 f n hf0 hf1 hn0 hn1)
  rw [hm] at C
  dsimp only at C
  have HSF := Lib.hid hSF
  have HXF := Lib.hid hXF
  have HS := Lib.hid hS
  clear h hX hXF hm hf0 hf1 hn0 hn1 hb0 hXl hSF
  go_enter Try.func28, Try.ntmps28
  go_upto_region 1 with fail
  (try simp only [hW0, hS])
  clear hW0 hS
  have x0 : W0.cell? ⟨X, 0, none⟩ = some (.pointer (some ⟨M, 0, none⟩)) := HX0.out.cell 0
  have r0 : W0.cell? ⟨S, 0, none⟩ = some (.int .u64 f) := HR0.out.cell 0
  have r1 : W0.cell? ⟨S, 1, none⟩ = some (.int .i64 n) := HR0.out.cell 1
  have HS0 := Lib.hid (And.intro x0 (And.intro r0 r1))
  have HSd : Hid (W0.drew.cell? ⟨X, 0, none⟩ = some (.pointer (some ⟨M, 0, none⟩)) ∧ W0.drew.cell? ⟨S, 0, none⟩ = some (.int .u64 f) ∧ W0.drew.cell? ⟨S, 1, none⟩ = some (.int .i64 n)) := Lib.hid HS0.out
  clear x0 r0 r1
  go_region_held3 (fun W => W.cell? ⟨X, 0, none⟩ = some (.pointer (some ⟨M, 0, none⟩)) ∧ W.cell? ⟨S, 0, none⟩ = some (.int .u64 f) ∧ W.cell? ⟨S, 1, none⟩ = some (.int .i64 n))
    (first | with_reducible exact HSd.out | with_reducible exact HS2.out | go_keep)
    (first
      | (go_at_call 45; refine (C.out _ (O0.out.below (Below.drew (Below.refl _ _)))).mono ?_; rintro e W2 ⟨rfl, F2, h2, mv⟩; have O2 := Lib.hid h2; have K2 := Lib.hid (kp_undrew mv.kp); have SB := Lib.hid mv.sub; have HX2 := Lib.hid (HX0.out.kp K2.out HX0.out.lt HXF.out); have HR2 := Lib.hid (HR0.out.kp K2.out HR0.out.lt HSF.out); have HS2 : Hid (W2.cell? ⟨X, 0, none⟩ = some (.pointer (some ⟨M, 0, none⟩)) ∧ W2.cell? ⟨S, 0, none⟩ = some (.int .u64 f) ∧ W2.cell? ⟨S, 1, none⟩ = some (.int .i64 n)) := Lib.hid ⟨HX2.out.cell 0, HR2.out.cell 0, HR2.out.cell 1⟩; clear h2 mv))
  clear HSd HS0 HS2 C HX0 HR0 O0
  go_upto_region 3 with fail
  have x1 : W2.cell? ⟨X, 1, none⟩ = some (.slice none 0 0) := HX2.out.cell 1
  have r0 : W2.cell? ⟨S, 0, none⟩ = some (.int .u64 f) := HR2.out.cell 0
  have r1 : W2.cell? ⟨S, 1, none⟩ = some (.int .i64 n) := HR2.out.cell 1
  have y1 : (W2.alloc (.cells #[.int .u64 f, .int .i64 n] 66)).cell? ⟨X, 1, none⟩ = some (.slice none 0 0) := (boxN_below HX2.out (bAlloc (Below.refl _ _) _)).cell 1
  go_region_law (first
    | (refine step_appE 61 66 (.agg #[.int .u64 0, .int .i64 0]) 2 16 Try.underlying61 infoRun rfl (by decide) (by decide) _ rfl _ _ rfl W2.heap.size (.slice none 0 0) 0 [] rfl (World.ownsRow_nil _ _ _ _) (some ⟨W2.heap.size, 0, none⟩) 1 1 [.int .u64 f, .int .i64 n] rfl (by first | exact Rd.lit W2 #[.int .u64 f, .int .i64 n] 66 (by show 2 ≤ maxLen; decide) | exact (Rd.lit W2 #[.int .u64 f, .int .i64 n] 66 (by show 2 ≤ maxLen; decide)).below (Below.drew (Below.refl _ _))) (fun u hu => by simp at hu; rcases hu with rfl | rfl <;> rfl) (by decide) (by first | exact Nat.le_succ _ | (simp; done) | (simp; omega)) ?_; intro a3 c3 W3 hown3 hgrow3 hat3; have hb3 : Below W2.heap.size W2 W3 := grownB (by repeat' (first | exact Below.refl _ _ | apply Below.drew | apply bAlloc)) hgrow3 (fun r e => by cases e); have B3 := Lib.hid hb3; have X3 := Lib.hid (boxN_below HX2.out hb3); have O3 := Lib.hid (O2.out.below hb3); have HO3 := Lib.hid hown3; clear hown3 hgrow3 hat3 hb3; have z0 : W3.cell? ⟨X, 0, none⟩ = some (.pointer (some ⟨M, 0, none⟩)) := X3.out.cell 0; have z1 : W3.cell? ⟨X, 1, none⟩ = some (.slice none 0 0) := X3.out.cell 1; have zf : W3.frozen? ⟨X, 1, none⟩ = false := X3.out.frozen 1))
  all_goals (go_wp2_with fail)
  all_goals
    go_ret
    have hXF2 : ¬ F2 X := fun hf => by
      rcases SB.out X hf with h1 | h1
      · exact HXF.out h1
      · have h1 : W0.heap.size ≤ X := h1
        have := HXL.out; omega
    have hs2 : W0.heap.size ≤ W2.heap.size := K2.out.size
    have mvX : Moves W3 (W3.setCell ⟨X, 1, none⟩ (.slice a3 1 c3)) (fun b => b = X) (fun b => b = X) := ⟨fun b h => Or.inl h, KP.set1 W3 X 1 _⟩
    refine ⟨rfl, F2, a3, c3, (O3.out.beside mvX (fun b hb e => hXF2 (e ▸ hb))).1, X3.out.set 1 (.slice a3 1 c3), fun b hb => ?_, ?_⟩
    · rw [HS.out]
      rcases SB.out b hb with h1 | h1
      · exact Or.inl h1
      · have h1 : W0.heap.size ≤ b := h1
        exact Or.inr (by omega)
    · rw [HS.out]
      have k1 : KP S (fun b => F b ∨ b = X) W W0 := ⟨HB0.out.os, HB0.out.tape, HB0.out.output, HB0.out.size, fun b hb _ => HB0.out.block b hb⟩
      have k2 : KP S (fun b => F b ∨ b = X) W0 W2 := K2.out.mono (by omega) (fun b _ hf => Or.inl hf)
      have k3 : KP S (fun b => F b ∨ b = X) W2 W3 := (KP.of_below (fun b => F b ∨ b = X) B3.out).mono (by omega) (fun b _ hf => hf)
      have k4 : KP S (fun b => F b ∨ b = X) W3 (W3.setCell ⟨X, 1, none⟩ (.slice a3 1 c3)) := (KP.set1 W3 X 1 _).mono (by have := B3.out.size; omega) (fun b _ hf => Or.inr hf)
      exact ((k1.trans k2).trans k3).trans k4
end Go.Proofs.Yteaididdamihlaa

namespace Go.Proofs.Yteaididdamihlaa
set_option linter.unusedVariables false
set_option linter.unusedSimpArgs false
open Go.Joins Go.ChangeShapes Go.WideShapes Go.ChangeAt Go.RowKit Go.Deep

def runC (base : Int) (s : Ce.Seg) : List Value := [.int .u64 ((base + s.place) / 256), .int .i64 ((s.size + 255) / 256)]
theorem runs_snoc (base : Int) (l : List Ce.Seg) (k : Nat) (h : k < l.length) : (l.take (k + 1)).flatMap (runC base) = (l.take k).flatMap (runC base) ++ runC base l[k] := by
  rw [List.take_succ_eq_append_getElem h, List.flatMap_append, List.flatMap_cons, List.flatMap_nil, List.append_nil]
set_option maxHeartbeats 2000000 in
set_option maxRecDepth 100000 in
theorem runs_any (v0 v1 v3 v4 v5 v6 : Value) (ga : Option Addr) (m gc : Nat) (l : List Ce.Seg) (b : Nat) (w : World) (hm : l.length = m) (hg : Ce.RdG w ga l) (hm8 : m ≤ 1000) (hok : Ce.SegsOk l) (hb1 : b < 4294967296) :
    Calls Try.prog 27 #[.agg #[v0, v1, .slice ga m gc, v3, v4, v5, v6], .int .u64 (b : Int)] w fun e w' => ∃ (a : Option Addr) (c : Nat), e = .returned (.slice a m c) ∧ w'.ownsRow w.heap.size 66 2 (.slice a m c) m (l.flatMap (runC b)) ∧ Below w.heap.size w w' := by
  have HM := Lib.hid hm
  have HG := Lib.hid hg
  have HOK := Lib.hid hok
  have HZ : Hid ((w.alloc (.cells #[v0, v1, .slice ga m gc, v3, v4, v5, v6] 28)).ownsRow w.heap.size 66 2 (.slice none 0 0) 0 ((l.take 0).flatMap (runC b))) := Lib.hid (World.ownsRow_nil _ _ _ _)
  have HB0 : Hid (Below w.heap.size w (w.alloc (.cells #[v0, v1, .slice ga m gc, v3, v4, v5, v6] 28))) := Lib.hid (bAlloc (Below.refl _ _) _)
  clear hm hg hok
  go_enter Try.func27, Try.ntmps27
  go_wp2_with fail
  go_loopw [5, 7, 11] (fun av _ i wr => ∃ k : Nat, i = .int .i64 k ∧ k ≤ m ∧ Hid (wr.ownsRow w.heap.size 66 2 av k ((l.take k).flatMap (runC b))) ∧ Hid (Below w.heap.size w wr)) (fun _ _ i _ => m - (intOf i).toNat)
  case atStart => exact ⟨0, rfl, by omega, HZ, HB0⟩
  case round =>
    clear HZ HB0
    obtain ⟨k, rfl, hk, HO, HB⟩ := hrel
    obtain ⟨ra, rc, rfl, hrc⟩ := own_slice HO.out
    by_cases hlt : k < m
    · have hkl : k < l.length := by rw [HM.out]; exact hlt
      obtain ⟨g, off, hge, hgl, c0, c1, c2, c3⟩ := (HG.out.below HB.out).at_ hkl
      have hz := HOK.out.pz _ (List.getElem_mem hkl)
      have hsn := runs_snoc b l k hkl
      obtain ⟨s, hs⟩ : ∃ s, l[k] = s := ⟨_, rfl⟩
      rw [hs] at c0 c1 c2 c3 hz hsn
      obtain ⟨pl, sz, fl, bys, ba, bc⟩ := s
      simp only at c0 c1 c2 c3 hz
      rw [show runC (b : Int) (⟨pl, sz, fl, bys, ba, bc⟩ : Ce.Seg) = [.int .u64 (((b : Int) + pl) / 256), .int .i64 ((sz + 255) / 256)] from rfl] at hsn
      obtain ⟨x, hx⟩ : ∃ x : Nat, (b : Int) + pl = x := ⟨((b : Int) + pl).toNat, by omega⟩
      obtain ⟨s1, hs1⟩ : ∃ x : Nat, sz + 256 = x := ⟨(sz + 256).toNat, by omega⟩
      obtain ⟨s2, hs2⟩ : ∃ x : Nat, sz + 255 = x := ⟨(sz + 255).toNat, by omega⟩
      obtain ⟨xq, hxq⟩ : ∃ y, x / 256 = y := ⟨_, rfl⟩
      obtain ⟨sq, hsq⟩ : ∃ y, s2 / 256 = y := ⟨_, rfl⟩
      have w1 : IntKind.u64.wrap ((b : Int) + pl) = (x : Int) := by rw [IntKind.wrap_u64]; omega
      have w2 : IntKind.u64.wrap (sz + 256) = (s1 : Int) := by rw [IntKind.wrap_u64]; omega
      have w3 : IntKind.u64.wrap ((s1 : Int) - 1) = (s2 : Int) := by rw [IntKind.wrap_u64]; omega
      have w4 : (x : Int) / 256 = (xq : Int) := by omega
      have w5 : (s2 : Int) / 256 = (sq : Int) := by omega
      have w6 : IntKind.u64.wrap (xq : Int) = (xq : Int) := by rw [IntKind.wrap_u64]; omega
      have w7 : IntKind.u64.wrap (sq : Int) = (sq : Int) := by rw [IntKind.wrap_u64]; omega
      have w8 : IntKind.i64.wrap (sq : Int) = (sq : Int) := by rw [IntKind.wrap_i64]; omega
      rw [hx, hs2, w4, w5] at hsn
      have HSN := Lib.hid hsn
      have kk0 : (0 : Int) ≤ (k : Int) := by omega
      have kk1 : (k : Int) < (m : Int) := by omega
      have kk2 : (k : Int) < 1000 := by omega
      have HK := Lib.hid (And.intro hlt hm8)
      have hsz := HB.out.size
      subst hge
      clear hkl hz hsn hs hx hs1 hs2 hxq hsq hgl hlt hk hm8
      go_wp2_with (at_builtin; refine wpList_appE 61 66 (.agg #[.int .u64 0, .int .i64 0]) 2 16 Try.underlying61 infoRun rfl (by decide) (by decide) _ rfl _ _ rfl w.heap.size (.slice ra k rc) k ((l.take k).flatMap (runC b)) rfl ((HO.out.alloc _).alloc _) (some ⟨wr.heap.size + 1, 0, none⟩) 1 1 [.int .u64 (xq : Int), .int .i64 (sq : Int)] rfl (Rd.lit1 wr _ #[.int .u64 (xq : Int), .int .i64 (sq : Int)] 66 (by show 2 ≤ maxLen; decide)) (fun u hu => by simp at hu; rcases hu with rfl | rfl <;> rfl) (by have := HK.out; omega) (by rw [size_alloc, size_alloc]; omega) ?_; intro a3 c3' W3 hown3 hgrow3 hat3)
      have HO3 : Hid (W3.ownsRow w.heap.size 66 2 (.slice a3 (k + 1) c3') (k + 1) ((l.take (k + 1)).flatMap (runC b))) := Lib.hid (by rw [HSN.out]; exact hown3)
      have HB3 := Lib.hid (grownB (bTrans HB.out (bAlloc (bAlloc (Below.refl _ _) (.cells #[.int .u64 pl, .int .u64 sz, .int .i64 fl, .slice ba bys.length bc] 40)) (.cells #[.int .u64 (xq : Int), .int .i64 (sq : Int)] 66))) hgrow3 (fun r e => (HO.out.lt r e).1))
      clear hown3 hgrow3 hat3 HO HB
      go_wp2_with fail
      go_roundw
      case rel => exact ⟨k + 1, by go_num, HK.out.1, HO3, HB3⟩
      case measure => have h1 := HK.out.1; simp [intOf]; omega
    · obtain rfl : m = k := by omega
      have ht : l.take m = l := by rw [← HM.out]; exact List.take_length
      rw [ht] at HO
      go_wp2_with fail
      go_ret
      exact ⟨ra, rc, rfl, HO.out, HB.out⟩
end Go.Proofs.Yteaididdamihlaa

namespace Go.Proofs.Yteaididdamihlaa
set_option linter.unusedVariables false
set_option linter.unusedSimpArgs false
open Go.Joins Go.ChangeShapes Go.WideShapes Go.ChangeAt Go.RowKit Go.Deep

theorem take_done (X : Nat) (u : FrameMode) (W : World) (h : W.cell? ⟨X, 2, none⟩ = some (.bool true)) :
    CallsD Try.prog 26 #[.pointer (some ⟨X, 0, none⟩)] u W fun e u' w' => u' = u ∧ (e = .returned (.tuple #[]) ∧ W = w') := by
  go_enter_d Try.func26, Try.ntmps26
  go_wp2_with fail
  exact bodyPost_ret (v := .tuple #[]) (by simp [results, Try.results26, go_sem]) rfl ⟨rfl, rfl⟩
theorem kp_or {S T : Nat → Prop} {n : Nat} {w w' : World} (h : KP n S w w') (hst : ∀ b, b < n → S b → T b) : KP n T w w' := h.mono (Nat.le_refl _) hst
set_option maxHeartbeats 4000000 in
set_option maxRecDepth 100000 in
theorem map_one (W : World) (N M : Nat) (F : Nat → Prop) (m m1 m2 : Mm) (h : Own1 W N F M m) (v0 v1 v3 v4 v5 v6 : Value) (ga : Option Addr) (gc : Nat) (s : Ce.Seg) (b xn : Nat) (xf sn : Int) (L : List Nat) (hg : Ce.RdG W ga [s]) (hgF : ∀ g off, ga = some ⟨g, off, none⟩ → ¬ F g) (hb1 : b < 4294967296) (hok : Ce.SegsOk [s])
    (hxn : (b : Int) + s.place = xn) (hxf : ((b : Int) + s.place) / 256 = xf) (hsn : (s.size + 255) / 256 = sn) (hby : Ce.u8v s.bytes = u8s L) (hLl : L.length = s.bytes.length) (hLb : ∀ b ∈ L, b < 256) (hbr : Rd W s.ba s.bytes.length (u8s L)) (hbF : 0 < s.bytes.length → ∀ g off, s.ba = some ⟨g, off, none⟩ → ¬ F g) (hbc : s.bytes.length ≤ s.bc ∧ s.bytes.length < 9223372036854775808)
    (hm1 : mapF m xf sn = (m1, 0)) (hm2 : putF m1 (xn : Int) L = (m2, 0)) :
    Calls Try.prog 15 #[.pointer (some ⟨M, 0, none⟩), .agg #[v0, v1, .slice ga 1 gc, v3, v4, v5, v6], .int .u64 (b : Int)] W fun e W' => e = .returned (.int .i64 0) ∧ ∃ F', Own1 W' N F' M m2 ∧ Moves W W' F F' := by
  have hp := hok.pz s (by simp)
  obtain ⟨W2, hW2⟩ : ∃ W2, (W.alloc (.cells #[v0, v1, .slice ga 1 gc, v3, v4, v5, v6] 28)).alloc (.cells #[.pointer (some ⟨M, 0, none⟩), .slice none 0 0, .bool false] 63) = W2 := ⟨_, rfl⟩
  have hb2 : Below W.heap.size W W2 := by rw [← hW2]; exact bAlloc (bAlloc (Below.refl _ _) _) _
  have O2 : Hid (BoxN W2 W.heap.size #[v0, v1, .slice ga 1 gc, v3, v4, v5, v6]) := Lib.hid (by rw [← hW2]; exact boxN_below (BoxN.new W _ _) (bAlloc (Below.refl _ _) _))
  have X2 : Hid (BoxN W2 (W.heap.size + 1) #[.pointer (some ⟨M, 0, none⟩), .slice none 0 0, .bool false]) := Lib.hid (by
    rw [← hW2]
    have h := BoxN.new (W.alloc (.cells #[v0, v1, .slice ga 1 gc, v3, v4, v5, v6] 28)) #[.pointer (some ⟨M, 0, none⟩), .slice none 0 0, .bool false] 63
    rw [size_alloc] at h
    exact h)
  have H0 := Lib.hid h
  have H2 := Lib.hid (h.below hb2)
  have B2 := Lib.hid hb2
  have CR := Lib.hid (runs_any v0 v1 v3 v4 v5 v6 ga 1 gc [s] b W2 rfl (hg.below hb2) (by decide) hok hb1)
  have HG := Lib.hid hg
  have HBR := Lib.hid hbr
  have HGF := Lib.hid hgF
  have HBF := Lib.hid hbF
  have HBC := Lib.hid hbc
  have HLL := Lib.hid (And.intro hLl hLb)
  have HM1 := Lib.hid hm1
  have HM2 := Lib.hid hm2
  have hz2 : W2.heap.size = W.heap.size + 2 := by rw [← hW2, size_alloc, size_alloc]
  obtain ⟨B, hB⟩ : ∃ B, W.heap.size = B := ⟨_, rfl⟩
  rw [hB] at O2 X2 hz2
  obtain ⟨pl, sz, fl, bys, ba, bc⟩ := s
  simp only at hp hxn hxf hsn hby hLl hbr hbF hbc HBR HBF HBC HLL
  have w1 : IntKind.u64.wrap ((b : Int) + pl) = (xn : Int) := by rw [IntKind.wrap_u64]; omega
  have HXF : Hid (0 ≤ xf ∧ xf < 18446744073709551616 ∧ -9223372036854775808 ≤ sn ∧ sn < 9223372036854775808 ∧ xn < 18446744073709551616) := Lib.hid (by omega)
  have HRC : Hid (runC (b : Int) (⟨pl, sz, fl, bys, ba, bc⟩ : Ce.Seg) = [.int .u64 xf, .int .i64 sn]) := Lib.hid (by unfold runC; rw [← hxf, ← hsn])
  obtain ⟨bl, hbl⟩ : ∃ n, bys.length = n := ⟨_, rfl⟩
  have HBL := Lib.hid hbl
  have HBB := Lib.hid hB
  clear h hb2 hg hgF hok hp hxn hxf hsn hby hLl hLb hbr hbF hbc hm1 hm2 hbl
  have HW2 := Lib.hid hW2
  clear hW2 hB
  go_enter_defers Try.func15, Try.ntmps15
  go_upto_region 3 with fail
  simp only [HW2.out, HBB.out]
  clear HW2
  have hXF0 : ¬ F (B + 1) := fun hf => by have := H0.out.lt _ hf; have := HBB.out; omega
  have hBF0 : ¬ F B := fun hf => by have := H0.out.lt _ hf; have := HBB.out; omega
  have HXF0 := Lib.hid (And.intro hXF0 hBF0)
  clear hXF0 hBF0
  have o0 := O2.out.cell 0
  have o1 := O2.out.cell 1
  have o2 := O2.out.cell 2
  have o3 := O2.out.cell 3
  have o4 := O2.out.cell 4
  have o5 := O2.out.cell 5
  have o6 := O2.out.cell 6
  have HZ2 := Lib.hid hz2
  clear hz2
  go_wp2_with fail
  refine CR.out.mono ?_; rintro e W3 ⟨ra, rc, rfl, hor, hb⟩
  have HRD : Hid (Rd W3 ra 2 [.int .u64 xf, .int .i64 sn]) := Lib.hid (by
    have h := own_rd hor
    rw [List.flatMap_cons, List.flatMap_nil, List.append_nil, HRC.out] at h
    exact h)
  have H3 := Lib.hid (H2.out.below hb)
  have X3 := Lib.hid (boxN_below X2.out hb)
  have O3 := Lib.hid (boxN_below O2.out hb)
  have B3 := Lib.hid (B2.out.trans (hb.mono B2.out.size))
  have HS3 : Hid (B + 2 ≤ W3.heap.size) := Lib.hid (by have := hb.size; have := HZ2.out; omega)
  clear hb hor CR o0 o1 o2 o3 o4 o5 o6 H2 X2 O2 B2
  go_wp2_with fail
  go_loopw [9, 10, 20] (fun _ _ i wr => (i = .int .i64 0 ∧ W3 = wr) ∨ (i = .int .i64 1 ∧ ∃ (F1 : Nat → Prop) (a : Option Addr) (c : Nat), Hid (Own1 wr N F1 M m1) ∧ Hid (BoxN wr (B + 1) #[.pointer (some ⟨M, 0, none⟩), .slice a 1 c, .bool false]) ∧ Hid (∀ b, F1 b → F b ∨ W3.heap.size ≤ b) ∧ Hid (KP W3.heap.size (fun b => F b ∨ b = B + 1) W3 wr))) (fun _ _ i _ => 1 - (intOf i).toNat)
  case atStart => exact Or.inl ⟨rfl, rfl⟩
  case round =>
    rcases hrel with ⟨rfl, rfl⟩ | ⟨rfl, F1, a1, c1, H5, X5, SB, K5⟩
    · obtain ⟨g, off, rfl, hl, hc⟩ := HRD.out.2 (by decide)
      have r0 : W3.cell? ⟨g, off, none⟩ = some (.int .u64 xf) := hc 0 (by decide)
      have r1 : W3.cell? ⟨g, off + 1, none⟩ = some (.int .i64 sn) := hc 1 (by decide)
      clear hc hl
      have hbA : Below W3.heap.size W3 (W3.alloc (.cells #[.int .u64 xf, .int .i64 sn] 66)) := bAlloc (Below.refl _ _) _
      have C := Lib.hid (add_one (W3.alloc (.cells #[.int .u64 xf, .int .i64 sn] 66)) N M F m m1 (B + 1) xf sn (H3.out.below hbA) (boxN_below X3.out hbA) HXF0.out.1 HM1.out HXF.out.1 HXF.out.2.1 HXF.out.2.2.1 HXF.out.2.2.2.1)
      have HBA := Lib.hid hbA
      clear hbA
      go_wp2_with fail
      refine C.out.mono ?_; rintro e W5 ⟨rfl, F1, a1, c1, h5, x5, sb, k5⟩
      have H5 := Lib.hid h5
      have X5 := Lib.hid x5
      have SB : Hid (∀ b, F1 b → F b ∨ W3.heap.size ≤ b) := Lib.hid (fun b hb => by
        rcases sb b hb with h1 | h1
        · exact Or.inl h1
        · rw [size_alloc] at h1; exact Or.inr (by omega))
      have K5 : Hid (KP W3.heap.size (fun b => F b ∨ b = B + 1) W3 W5) := Lib.hid ((KP.of_below (fun b => F b ∨ b = B + 1) HBA.out).trans (k5.mono (by rw [size_alloc]; omega) (fun b _ h => h)))
      clear h5 x5 sb k5 C HBA r0 r1
      go_wp2_with fail
      go_roundw
      case rel => exact Or.inr ⟨by rfl, F1, a1, c1, H5, X5, SB, K5⟩
      case measure => simp [intOf]
    · generalize wr = V at *
      have hgb : ∀ gg off, ga = some ⟨gg, off, none⟩ → gg < B := fun gg off e => by
        obtain ⟨b', o', e', hl, -⟩ := HG.out.2 (by show 0 < 1 * 4; decide)
        rw [e] at e'; cases e'
        have := HBB.out; omega
      have HG5 : Hid (Ce.RdG V ga [(⟨pl, sz, fl, bys, ba, bc⟩ : Ce.Seg)]) := Lib.hid (K5.out.rd (HG.out.below B3.out) (fun gg off _ e => ⟨by have := hgb gg off e; have := HS3.out; omega, fun hf => by
        rcases hf with hf | hf
        · exact HGF.out gg off e hf
        · have := hgb gg off e; omega⟩))
      have HBR5 : Hid (Rd V ba bys.length (u8s L)) := Lib.hid (K5.out.rd (HBR.out.below B3.out) (fun gg off h0 e => by
        obtain ⟨b', o', e', hl, -⟩ := HBR.out.2 h0
        rw [e] at e'; cases e'
        have hl2 : gg < B := by have := HBB.out; omega
        exact ⟨by have := HS3.out; omega, fun hf => by
          rcases hf with hf | hf
          · exact HBF.out h0 gg off e hf
          · omega⟩))
      have O5 := Lib.hid (O3.out.kp K5.out (by have := HS3.out; omega) (fun hf => by
        rcases hf with hf | hf
        · exact HXF0.out.2 hf
        · omega))
      have hXF1 : ¬ F1 (B + 1) := fun hf => by
        rcases SB.out _ hf with h1 | h1
        · exact HXF0.out.1 h1
        · have := HS3.out; omega
      have HX1 := Lib.hid hXF1
      have HS5 := Lib.hid K5.out.size
      have HBF5 : Hid (0 < bys.length → ∀ g off, ba = some ⟨g, off, none⟩ → ¬ F1 g) := Lib.hid (fun h0 gg off e hf => by
        obtain ⟨b', o', e', hl, -⟩ := HBR.out.2 h0
        rw [e] at e'; cases e'
        rcases SB.out _ hf with h1 | h1
        · exact HBF.out h0 gg off e h1
        · have := HS3.out; have := HBB.out; omega)
      clear hgb hXF1
      have o2 : V.cell? ⟨B, 2, none⟩ = some (.slice ga 1 gc) := O5.out.cell 2
      go_wp2_with fail
      go_loopw [12, 13, 33] (fun _ _ i ws => (i = .int .i64 0 ∧ V = ws) ∨ (i = .int .i64 1 ∧ ∃ (F2 : Nat → Prop), Hid (Own1 ws N F2 M m2) ∧ Hid (BoxN ws (B + 1) #[.pointer (some ⟨M, 0, none⟩), .slice a1 1 c1, .bool false]) ∧ Hid (∀ b, F2 b → F1 b ∨ V.heap.size ≤ b) ∧ Hid (KP V.heap.size F1 V ws))) (fun _ _ i _ => 1 - (intOf i).toNat)
      case atStart => exact Or.inl ⟨rfl, rfl⟩
      case round =>
        rcases hrel with ⟨rfl, hVW⟩ | ⟨rfl, F2, H7, X7, SB2, K7⟩
        · subst hVW
          obtain ⟨g, off, hge, hl, c0, c1', c2, c3⟩ := HG5.out.at_ (show 0 < [(⟨pl, sz, fl, bys, ba, bc⟩ : Ce.Seg)].length by simp)
          simp only [List.getElem_cons_zero, Nat.zero_mul, Nat.add_zero] at c0 c1' c2 c3
          rw [HBL.out] at c3
          subst hge
          have hbA : Below V.heap.size V (V.alloc (.cells #[.int .u64 pl, .int .u64 sz, .int .i64 fl, .slice ba bl bc] 40)) := bAlloc (Below.refl _ _) _
          have HBR6 : Rd V ba bl (u8s L) := by rw [← HBL.out]; exact HBR5.out
          have C := Lib.hid (sput_any (V.alloc (.cells #[.int .u64 pl, .int .u64 sz, .int .i64 fl, .slice ba bl bc] 40)) N M F1 m1 (H5.out.below hbA) xn bl bc ba L HXF.out.2.2.2.2 (by rw [← HBL.out]; exact HLL.out.1) (by rw [← HBL.out]; exact HBC.out.1) (by rw [← HBL.out]; exact HBC.out.2) HLL.out.2 (HBR6.below hbA) (by rw [← HBL.out]; exact HBF5.out))
          rw [HM2.out] at C
          dsimp only at C
          have HBA := Lib.hid hbA
          clear hbA hl HBR6
          go_wp2_with fail
          refine C.out.mono ?_; rintro e W7 ⟨rfl, F2, h7, mv⟩
          have H7 := Lib.hid h7
          have X7 := Lib.hid ((boxN_below X5.out HBA.out).kp mv.kp (by have := (boxN_below X5.out HBA.out).lt; omega) HX1.out)
          have SB2 : Hid (∀ b, F2 b → F1 b ∨ V.heap.size ≤ b) := Lib.hid (fun b hb => by
            rcases mv.sub b hb with h1 | h1
            · exact Or.inl h1
            · rw [size_alloc] at h1; exact Or.inr (by omega))
          have K7 : Hid (KP V.heap.size F1 V W7) := Lib.hid ((KP.of_below F1 HBA.out).trans (mv.kp.mono (by rw [size_alloc]; omega) (fun b _ h => h)))
          clear h7 mv C HBA c0 c1' c2 c3
          go_wp2_with fail
          go_roundw
          case rel => exact Or.inr ⟨by rfl, F2, H7, X7, SB2, K7⟩
          case measure => simp [intOf]
        · have z2 : wr.cell? ⟨B + 1, 2, none⟩ = some (.bool false) := X7.out.cell 2
          have zf : wr.frozen? ⟨B + 1, 2, none⟩ = false := X7.out.frozen 2
          go_wp2_with fail
          have hz : (wr.setCell ⟨B + 1, 2, none⟩ (.bool true)).cell? ⟨B + 1, 2, none⟩ = some (.bool true) := (X7.out.set 2 (.bool true)).cell 2
          have hBW := HBB.out
          have hs3 := HS3.out
          have hs5 : W3.heap.size ≤ V.heap.size := HS5.out
          have hs7 := K7.out.size
          have hF1 : ∀ b, F1 b → F b ∨ W3.heap.size ≤ b := SB.out
          have hF2 : ∀ b, F2 b → F b ∨ W3.heap.size ≤ b := fun b hb => by
            rcases SB2.out b hb with h1 | h1
            · exact hF1 b h1
            · exact Or.inr (by omega)
          have hX2 : ∀ b, F2 b → ¬ b = B + 1 := fun b hb e => by
            rcases SB2.out b hb with h1 | h1
            · exact HX1.out (e ▸ h1)
            · omega
          have mvX : Moves wr (wr.setCell ⟨B + 1, 2, none⟩ (.bool true)) (fun b => b = B + 1) (fun b => b = B + 1) := ⟨fun b h => Or.inl h, KP.set1 wr (B + 1) 2 _⟩
          have hown := (H7.out.beside mvX hX2).1
          have k1 : KP W.heap.size F W W3 := ⟨B3.out.os, B3.out.tape, B3.out.output, B3.out.size, fun b hb _ => B3.out.block b hb⟩
          have k2 : KP W.heap.size F W3 V := K5.out.mono (by omega) (fun b hb hf => by
            rcases hf with hf | hf
            · exact hf
            · omega)
          have k3 : KP W.heap.size F V wr := K7.out.mono (by omega) (fun b hb hf => by
            rcases hF1 b hf with h1 | h1
            · exact h1
            · omega)
          have k4 : KP W.heap.size F wr (wr.setCell ⟨B + 1, 2, none⟩ (.bool true)) := (KP.set1 wr (B + 1) 2 _).mono (by omega) (fun b hb hf => by
            have hf : b = B + 1 := hf
            omega)
          have hmv : Moves W (wr.setCell ⟨B + 1, 2, none⟩ (.bool true)) F F2 := ⟨fun b hb => by
            rcases hF2 b hb with h1 | h1
            · exact Or.inl h1
            · exact Or.inr (by omega), ((k1.trans k2).trans k3).trans k4⟩
          refine leaves_cons (f := 26) (args := #[.pointer (some ⟨B + 1, 0, none⟩)]) (by simp) (by simp [go_sem]) ?_
          refine (take_done (B + 1) .returning _ hz).mono ?_
          rintro e u' w'' ⟨rfl, rfl, rfl⟩
          exact ⟨_, results_tmp rfl _ _ _, rfl, F2, hown, hmv⟩
end Go.Proofs.Yteaididdamihlaa

namespace Go.Proofs.Yteaididdamihlaa
set_option linter.unusedVariables false
set_option linter.unusedSimpArgs false
open Go.Joins Go.ChangeShapes Go.WideShapes Go.ChangeAt Go.RowKit Go.Deep

theorem two_any (W : World) :
    Calls Try.prog 20 #[] W fun e W' => ∃ (g a : Nat), e = .returned (.agg #[.string ⟨#[97]⟩, .slice none 0 0, .slice (some ⟨g, 0, none⟩) 1 1, .slice none 0 0, .slice none 0 0, .slice none 0 0, .slice none 0 0]) ∧ W.heap.size ≤ g ∧ W.heap.size ≤ a ∧ Ce.RdG W' (some ⟨g, 0, none⟩) [⟨256, 300, 3, [1, 2], some ⟨a, 0, none⟩, 2⟩] ∧ Rd W' (some ⟨a, 0, none⟩) 2 (u8s [1, 2]) ∧ Below W.heap.size W W' := by
  go_enter Try.func20, Try.ntmps20
  go_wp2_with fail
  have h1 := Rd.lit1 W (.cells #[.string ⟨#[97]⟩, .slice none 0 0, .slice (some ⟨W.heap.size + 1 + 1, 0, none⟩) 1 1, .slice none 0 0, .slice none 0 0, .slice none 0 0, .slice none 0 0] 28) #[.int .u8 1, .int .u8 2] 5 (by show 2 ≤ maxLen; decide)
  have h2 := Rd.lit ((W.alloc (.cells #[.string ⟨#[97]⟩, .slice none 0 0, .slice (some ⟨W.heap.size + 1 + 1, 0, none⟩) 1 1, .slice none 0 0, .slice none 0 0, .slice none 0 0, .slice none 0 0] 28)).alloc (.cells #[.int .u8 1, .int .u8 2] 5)) #[.int .u64 256, .int .u64 300, .int .i64 3, .slice (some ⟨W.heap.size + 1, 0, none⟩) 2 2] 40 (by show 4 ≤ maxLen; decide)
  rw [size_alloc, size_alloc] at h2
  exact bodyPost_ret (v := .agg #[.string ⟨#[97]⟩, .slice none 0 0, .slice (some ⟨W.heap.size + 1 + 1, 0, none⟩) 1 1, .slice none 0 0, .slice none 0 0, .slice none 0 0, .slice none 0 0]) (by simp [results, Try.results20, go_sem]) rfl ⟨_, W.heap.size + 1, rfl, by omega, by omega, h2, h1.alloc _, bAlloc (bAlloc (bAlloc (Below.refl _ _) _) _) _⟩
theorem two_ok (ba : Option Addr) : Ce.SegsOk [⟨256, 300, 3, [1, 2], ba, 2⟩] := by
  constructor
  · intro s hs
    simp only [List.mem_cons, List.not_mem_nil, or_false] at hs
    subst hs; exact ⟨by show (1 : Int) ≤ 3; decide, by show (3 : Int) ≤ 5; decide⟩
  · intro s hs
    simp only [List.mem_cons, List.not_mem_nil, or_false] at hs
    subst hs; exact ⟨by show (0 : Int) ≤ 256; decide, by show (0 : Int) ≤ 300; decide, by show (256 : Int) + 300 ≤ 16384; decide⟩
def im1 : Mm := (mapF (emptyM 4) 5 2).1
def im2 : Mm := (putF im1 1280 [1, 2]).1
theorem iv1 : (mapF (emptyM 4) 5 2).2 = 0 := by decide +kernel
theorem iv2 : (putF im1 1280 [1, 2]).2 = 0 := by decide +kernel
theorem iv3 : im2.pgs = [5, 6] := by decide +kernel
theorem iv4 : bytesF im2 1280 3 = [1, 2, 0] := by decide +kernel
theorem right_ok (o : Ce.Ob) (b : Nat) (w : World) (hr : Ce.RdOb w o) (hf : Ce.FitOb o) :
    Calls Try.prog 7 #[Ce.objV o, .int .u64 (b : Int)] w fun e w' => e = .returned (.bool (decide (Ce.checkF o = 0) && (decide (b % 256 = 0) && decide (b < 16777216)))) ∧ Below w.heap.size w w' := by
  have C := Lib.hid (Ce.rcheck_any o (w.alloc (.cells (Ce.objC o).toArray 28)) (hr.below (bAlloc (Below.refl _ _) _)) hf)
  obtain ⟨r, hrr⟩ : ∃ r, Ce.checkF o = r := ⟨_, rfl⟩
  rw [hrr] at C ⊢
  obtain ⟨br, hbr⟩ : ∃ x, b % 256 = x := ⟨_, rfl⟩
  have g1 : (b : Int) % 256 = (br : Int) := by omega
  rw [hbr]
  unfold Ce.objV
  rw [show (Ce.objC o).toArray = #[.string ⟨o.name.toArray⟩, .slice o.na o.needs.length o.nc, .slice o.ga o.segs.length o.gc, .slice o.sa o.syms.length o.sc, .slice o.ra o.rels.length o.rc, .slice o.ia o.init.length o.ic, .slice o.fa o.fini.length o.fc] from rfl] at C ⊢
  obtain ⟨v0, hv0⟩ : ∃ v, (⟨o.name.toArray⟩ : ByteArray) = v := ⟨_, rfl⟩
  obtain ⟨n1, h1⟩ : ∃ v, o.needs.length = v := ⟨_, rfl⟩
  obtain ⟨n2, h2⟩ : ∃ v, o.segs.length = v := ⟨_, rfl⟩
  obtain ⟨n3, h3⟩ : ∃ v, o.syms.length = v := ⟨_, rfl⟩
  obtain ⟨n4, h4⟩ : ∃ v, o.rels.length = v := ⟨_, rfl⟩
  obtain ⟨n5, h5⟩ : ∃ v, o.init.length = v := ⟨_, rfl⟩
  obtain ⟨n6, h6⟩ : ∃ v, o.fini.length = v := ⟨_, rfl⟩
  rw [hv0, h1, h2, h3, h4, h5, h6] at C ⊢
  clear hr hf hrr hbr hv0 h1 h2 h3 h4 h5 h6
  by_cases e1 : r = 0
  · subst e1
    by_cases e2 : br = 0
    · subst e2
      go_enter Try.func7, Try.ntmps7
      go_wp2_with fail
      refine C.out.mono ?_; rintro e w2 ⟨rfl, hb⟩
      have B2 := Lib.hid (bTrans (bAlloc (Below.refl w.heap.size w) _) hb)
      clear hb
      go_wp2_with fail
      go_ret
      refine ⟨?_, B2.out⟩
      simp
      omega
    · have f2 : ((br : Int) == 0) = false := beq_eq_false_iff_ne.2 (by omega)
      have f3 : decide (br = 0) = false := decide_eq_false e2
      rw [f3]
      clear e2
      go_enter Try.func7, Try.ntmps7
      go_wp2_with fail
      refine C.out.mono ?_; rintro e w2 ⟨rfl, hb⟩
      have B2 := Lib.hid (bTrans (bAlloc (Below.refl w.heap.size w) _) hb)
      clear hb
      go_wp2_with fail
      go_ret
      exact ⟨by simp, B2.out⟩
  · have f2 : (r == 0) = false := beq_eq_false_iff_ne.2 e1
    have f3 : decide (r = 0) = false := decide_eq_false e1
    rw [f3]
    clear e1
    go_enter Try.func7, Try.ntmps7
    go_wp2_with fail
    refine C.out.mono ?_; rintro e w2 ⟨rfl, hb⟩
    have B2 := Lib.hid (bTrans (bAlloc (Below.refl w.heap.size w) _) hb)
    clear hb
    go_wp2_with fail
    go_ret
    exact ⟨by simp, B2.out⟩
set_option maxRecDepth 100000 in
set_option maxHeartbeats 4000000 in
theorem awake_any (W : World) : Calls Try.prog 6 #[] W fun e W' => e = .returned (.bool true) ∧ Below W.heap.size W W' := by
  have HN := Lib.hid (snew_any 4 (by decide) W)
  go_enter Try.func6, Try.ntmps6
  go_wp2_with fail
  refine HN.out.mono ?_
  rintro e W1 ⟨M, F0, rfl, h0, hb0⟩
  rw [show (emptyM (4 : Int).toNat) = emptyM 4 from rfl] at h0
  have B1 := Lib.hid hb0
  have O1 := Lib.hid h0
  clear h0 hb0 HN
  go_wp2_with fail
  refine (two_any _).mono ?_; rintro e W2 ⟨g, a, rfl, hgl, hal, hrg, hrb, hb⟩
  have O2 := Lib.hid (O1.out.below hb)
  have B2 := Lib.hid (B1.out.trans (hb.mono B1.out.size))
  have C := Lib.hid (map_one W2 W.heap.size M F0 (emptyM 4) im1 im2 O2.out (.string ⟨#[97]⟩) (.slice none 0 0) (.slice none 0 0) (.slice none 0 0) (.slice none 0 0) (.slice none 0 0) (some ⟨g, 0, none⟩) 1 ⟨256, 300, 3, [1, 2], some ⟨a, 0, none⟩, 2⟩ 1024 1280 5 2 [1, 2] hrg
    (fun gg off e hf => by cases e; have := O1.out.lt _ hf; omega) (by decide) (two_ok _) rfl rfl rfl rfl rfl (by decide) hrb (fun _ gg off e hf => by cases e; have := O1.out.lt _ hf; omega) ⟨Nat.le_refl _, by show 2 < 9223372036854775808; decide⟩ (Prod.ext rfl iv1) (Prod.ext rfl iv2))
  rw [show ((1024 : Nat) : Int) = 1024 from rfl] at C
  clear hb hrg hrb hgl hal
  go_wp2_with fail
  refine C.out.mono ?_; rintro e W3 ⟨rfl, F1, h3, mv⟩
  have B3 := Lib.hid (B2.out.trans (mv.belowN O2.out))
  have O3 := Lib.hid h3
  clear h3 mv C O1 O2 B1 B2
  have C := Lib.hid (spages_any W3 W.heap.size M F1 im2 O3.out)
  rw [iv3] at C
  go_wp2_with fail
  refine C.out.mono ?_; rintro e W4 ⟨pa, pc, rfl, hor, hb⟩
  have P4 : Hid (Rd W4 pa 2 (u64s [5, 6])) := Lib.hid (row_later hor (Below.refl _ _))
  have O4 := Lib.hid (O3.out.below hb)
  have B4 := Lib.hid (B3.out.trans (hb.mono B3.out.size))
  clear hor hb C O3 B3
  have C := Lib.hid (sbytes_any W4 W.heap.size M F1 im2 O4.out 1280 3 (by decide) (by decide) (by decide))
  rw [show ((1280 : Nat) : Int) = 1280 from rfl, iv4] at C
  go_wp2_with fail
  refine C.out.mono ?_; rintro e W5 ⟨⟨qa, qc, rfl, hor⟩, hb⟩
  have Q5 : Hid (Rd W5 qa 3 (u8s [1, 2, 0])) := Lib.hid (row_later hor (Below.refl _ _))
  have P5 := Lib.hid (P4.out.below hb)
  have B5 := Lib.hid (B4.out.trans (hb.mono B4.out.size))
  clear hor hb C O4 B4 P4
  go_wp2_with fail
  refine (two_any _).mono ?_; rintro e W6 ⟨g, a, rfl, hgl, hal, hrg, hrb, hb⟩
  have B6 := Lib.hid (B5.out.trans (hb.mono B5.out.size))
  have P6 := Lib.hid (P5.out.below hb)
  have Q6 := Lib.hid (Q5.out.below hb)
  have C := Lib.hid (Ce.part_any (.string ⟨#[97]⟩) (.slice none 0 0) (.slice none 0 0) (.slice none 0 0) (.slice none 0 0) (.slice none 0 0) (some ⟨g, 0, none⟩) 1 1 [⟨256, 300, 3, [1, 2], some ⟨a, 0, none⟩, 2⟩] 1024 0 ⟨256, 300, 3, [1, 2], some ⟨a, 0, none⟩, 2⟩ 1280 1580 27 W6 rfl hrg (by decide) (by decide) rfl (by decide) (by show (0 : Int) ≤ 256; decide) (by show (0 : Int) ≤ 300; decide) rfl rfl (by decide) (by show (0 : Int) ≤ 3; decide) (by show (3 : Int) ≤ 7; decide) (by show Ce.permF 3 = 27; decide) (by decide))
  rw [show ((0 : Nat) : Int) = 0 from rfl] at C
  clear hb hrg hrb hgl hal B5 P5 Q5
  go_wp2_with fail
  refine C.out.mono ?_; rintro e W7 ⟨rfl, hb⟩
  have B7 := Lib.hid (B6.out.trans (hb.mono B6.out.size))
  have P7 := Lib.hid (P6.out.below hb)
  have Q7 := Lib.hid (Q6.out.below hb)
  clear hb C B6 P6 Q6
  go_upto_region 8 with fail
  obtain ⟨W8, hW8⟩ : ∃ V, W7.alloc (.cells #[.int .u64 1280, .int .u64 1580, .int .u64 1280, .int .i64 27, .int .i64 (-1), .bool true] 34) = V := ⟨_, rfl⟩
  rw [hW8]
  have B8 : Hid (Below W.heap.size W W8) := Lib.hid (by rw [← hW8]; exact bAlloc B7.out _)
  have P8 : Hid (Rd W8 pa 2 (u64s [5, 6])) := Lib.hid (by rw [← hW8]; exact P7.out.alloc _)
  have Q8 : Hid (Rd W8 qa 3 (u8s [1, 2, 0])) := Lib.hid (by rw [← hW8]; exact Q7.out.alloc _)
  have X8 : Hid (BoxN W8 W7.heap.size #[.int .u64 1280, .int .u64 1580, .int .u64 1280, .int .i64 27, .int .i64 (-1), .bool true]) := Lib.hid (by rw [← hW8]; exact BoxN.new W7 _ _)
  clear hW8 B7 P7 Q7
  obtain ⟨X, hX⟩ : ∃ X, W7.heap.size = X := ⟨_, rfl⟩
  rw [hX] at X8 ⊢
  clear hX
  go_wp2_with fail
  refine (two_any _).mono ?_; rintro e W9 ⟨g, a, rfl, hgl, hal, hrg, hrb, hb⟩
  have B9 := Lib.hid (B8.out.trans (hb.mono B8.out.size))
  have P9 := Lib.hid (P8.out.below hb)
  have Q9 := Lib.hid (Q8.out.below hb)
  have X9 := Lib.hid (boxN_below X8.out hb)
  have C := Lib.hid (Ce.own_any (.string ⟨#[97]⟩) (.slice none 0 0) (.slice none 0 0) (.slice none 0 0) (.slice none 0 0) (.slice none 0 0) (some ⟨g, 0, none⟩) 1 1 [⟨256, 300, 3, [1, 2], some ⟨a, 0, none⟩, 2⟩] 1024 1280 1580 155 W9 rfl hrg (by decide) (two_ok _) (by decide) (by decide) (by rfl))
  clear hb hrg hrb hgl hal B8 P8 Q8 X8
  go_wp2_with fail
  refine C.out.mono ?_; rintro e W10 ⟨rfl, hb⟩
  have B10 := Lib.hid (B9.out.trans (hb.mono B9.out.size))
  have P10 := Lib.hid (P9.out.below hb)
  have Q10 := Lib.hid (Q9.out.below hb)
  have X10 := Lib.hid (boxN_below X9.out hb)
  clear hb C B9 P9 Q9 X9
  go_upto_region 9 with fail
  obtain ⟨W11, hW11⟩ : ∃ V, W10.alloc (.cells #[.int .u64 1280, .int .u64 1580, .int .u64 1280, .int .i64 155, .int .i64 (-1), .bool true] 34) = V := ⟨_, rfl⟩
  rw [hW11]
  have B11 : Hid (Below W.heap.size W W11) := Lib.hid (by rw [← hW11]; exact bAlloc B10.out _)
  have P11 : Hid (Rd W11 pa 2 (u64s [5, 6])) := Lib.hid (by rw [← hW11]; exact P10.out.alloc _)
  have Q11 : Hid (Rd W11 qa 3 (u8s [1, 2, 0])) := Lib.hid (by rw [← hW11]; exact Q10.out.alloc _)
  have X11 : Hid (BoxN W11 X #[.int .u64 1280, .int .u64 1580, .int .u64 1280, .int .i64 27, .int .i64 (-1), .bool true]) := Lib.hid (by rw [← hW11]; exact boxN_below X10.out (bAlloc (Below.refl _ _) _))
  have Y11 : Hid (BoxN W11 W10.heap.size #[.int .u64 1280, .int .u64 1580, .int .u64 1280, .int .i64 155, .int .i64 (-1), .bool true]) := Lib.hid (by rw [← hW11]; exact BoxN.new W10 _ _)
  clear hW11 B10 P10 Q10 X10
  obtain ⟨Y, hY⟩ : ∃ Y, W10.heap.size = Y := ⟨_, rfl⟩
  rw [hY] at Y11 ⊢
  clear hY
  have C := Lib.hid (Ce.own_any (.string ⟨#[97]⟩) (.slice none 0 0) (.slice none 0 0) (.slice none 0 0) (.slice none 0 0) (.slice none 0 0) none 0 0 [] 1024 1024 1024 129 W11 rfl ⟨by simp [Ce.segsC], fun h => absurd h (by simp)⟩ (by decide) ⟨by simp, by simp⟩ (by decide) (by decide) (by rfl))
  go_wp2_with fail
  refine C.out.mono ?_; rintro e W12 ⟨rfl, hb⟩
  have B12 := Lib.hid (B11.out.trans (hb.mono B11.out.size))
  have P12 := Lib.hid (P11.out.below hb)
  have Q12 := Lib.hid (Q11.out.below hb)
  have X12 := Lib.hid (boxN_below X11.out hb)
  have Y12 := Lib.hid (boxN_below Y11.out hb)
  clear hb C B11 P11 Q11 X11 Y11
  go_upto_region 10 with fail
  obtain ⟨W13, hW13⟩ : ∃ V, W12.alloc (.cells #[.int .u64 1024, .int .u64 1024, .int .u64 1024, .int .i64 129, .int .i64 (-1), .bool true] 34) = V := ⟨_, rfl⟩
  rw [hW13]
  have B13 : Hid (Below W.heap.size W W13) := Lib.hid (by rw [← hW13]; exact bAlloc B12.out _)
  have P13 : Hid (Rd W13 pa 2 (u64s [5, 6])) := Lib.hid (by rw [← hW13]; exact P12.out.alloc _)
  have Q13 : Hid (Rd W13 qa 3 (u8s [1, 2, 0])) := Lib.hid (by rw [← hW13]; exact Q12.out.alloc _)
  have X13 : Hid (BoxN W13 X #[.int .u64 1280, .int .u64 1580, .int .u64 1280, .int .i64 27, .int .i64 (-1), .bool true]) := Lib.hid (by rw [← hW13]; exact boxN_below X12.out (bAlloc (Below.refl _ _) _))
  have Y13 : Hid (BoxN W13 Y #[.int .u64 1280, .int .u64 1580, .int .u64 1280, .int .i64 155, .int .i64 (-1), .bool true]) := Lib.hid (by rw [← hW13]; exact boxN_below Y12.out (bAlloc (Below.refl _ _) _))
  have Z13 : Hid (BoxN W13 W12.heap.size #[.int .u64 1024, .int .u64 1024, .int .u64 1024, .int .i64 129, .int .i64 (-1), .bool true]) := Lib.hid (by rw [← hW13]; exact BoxN.new W12 _ _)
  clear hW13 B12 P12 Q12 X12 Y12
  obtain ⟨Z, hZ⟩ : ∃ Z, W12.heap.size = Z := ⟨_, rfl⟩
  rw [hZ] at Z13 ⊢
  clear hZ
  have C := Lib.hid (usame_any pa (some ⟨W13.heap.size, 0, none⟩) 2 pc 2 2 [5, 6] [5, 6] (W13.alloc (.cells #[.int .u64 5, .int .u64 6] 29)) (P13.out.alloc _) (Rd.lit W13 #[.int .u64 5, .int .u64 6] 29 (by show 2 ≤ maxLen; decide)) (by decide) (by decide))
  go_wp2_with fail
  refine C.out.mono ?_; rintro e W14 ⟨rfl, hb⟩
  have hb2 : Below W13.heap.size W13 W14 := bTrans (w := W13) (bAlloc (Below.refl _ _) _) hb
  have B14 := Lib.hid (B13.out.trans (hb2.mono B13.out.size))
  have Q14 := Lib.hid (Q13.out.below hb2)
  have X14 := Lib.hid (boxN_below X13.out hb2)
  have Y14 := Lib.hid (boxN_below Y13.out hb2)
  have Z14 := Lib.hid (boxN_below Z13.out hb2)
  clear hb hb2 C B13 P13 Q13 X13 Y13 Z13
  have C := Lib.hid (same_any qa (some ⟨W14.heap.size, 0, none⟩) 3 qc 3 3 [1, 2, 0] [1, 2, 0] (W14.alloc (.cells #[.int .u8 1, .int .u8 2, .int .u8 0] 5)) (Q14.out.alloc _) (Rd.lit W14 #[.int .u8 1, .int .u8 2, .int .u8 0] 5 (by show 3 ≤ maxLen; decide)) (by decide) (by decide))
  go_wp2_with fail
  refine C.out.mono ?_; rintro e W15 ⟨rfl, hqq⟩
  have hb2 : Below W14.heap.size W14 W15 := by obtain ⟨nn, rfl⟩ := hqq; exact bTrans (w := W14) (bAlloc (Below.refl _ _) _) (below_drewN _ nn)
  have B15 := Lib.hid (B14.out.trans (hb2.mono B14.out.size))
  have hx := boxN_below X14.out hb2
  have hy := boxN_below Y14.out hb2
  have hz := boxN_below Z14.out hb2
  have c0 := hx.cell 0
  have c1 := hx.cell 1
  have c2 := hx.cell 2
  have c3 := hx.cell 3
  have c4 := hx.cell 4
  have c5 := hx.cell 5
  have d3 := hy.cell 3
  have e0 := hz.cell 0
  have e1 := hz.cell 1
  have e2 := hz.cell 2
  have e3 := hz.cell 3
  have e4 := hz.cell 4
  have e5 := hz.cell 5
  clear hqq hb2 C B14 Q14 X14 Y14 Z14 hx hy hz
  go_wp2_with fail
  go_ret
  exact ⟨by simp, B15.out⟩
end Go.Proofs.Yteaididdamihlaa


/- The document's granules that touch: contract. -/
import Derived.Test.YtinflemamegdfaaMcD
namespace Go.Proofs.Ytinflemamegdfaa
set_option linter.unusedVariables false
set_option linter.unusedSimpArgs false
open Go.Joins Go.ChangeShapes Go.WideShapes Go.ChangeAt Go.RowKit Go.Deep

theorem cell_alloc {w : World} {p : Addr} {v : Value} (o : Obj) (h : w.cell? p = some v) : (w.alloc o).cell? p = some v := ((bAlloc (Below.refl w.heap.size w) o).cell (heap_lt_of_cell h)).trans h
theorem cell_set6 {w : World} {b g j : Nat} {v : Value} {v0 v1 v2 v3 v4 v5 : Value} (hne : g < b) (h : w.cell? ⟨g, j, none⟩ = some v) : ((((((w.setCell ⟨b, 0, none⟩ v0).setCell ⟨b, 1, none⟩ v1).setCell ⟨b, 2, none⟩ v2).setCell ⟨b, 3, none⟩ v3).setCell ⟨b, 4, none⟩ v4).setCell ⟨b, 5, none⟩ v5).cell? ⟨g, j, none⟩ = some v := by
  have hn : g ≠ b := Nat.ne_of_lt hne
  rw [cell_off hn, cell_off hn, cell_off hn, cell_off hn, cell_off hn, cell_off hn, h]
theorem capOf_fitE {m : Mm} (h : Okm m) (x : Nat) : FitC (capOf m x) := by
  have g : ∀ y, 0 ≤ ((ofB (manyB m y 8) : Nat) : Int) ∧ ((ofB (manyB m y 8) : Nat) : Int) < 18446744073709551616 := fun y => by
    have := ofB_lt (manyB m y 8) (manyB_lt h y 8)
    omega
  exact ⟨(g _).1, (g _).2, (g _).1, (g _).2, (g _).1, (g _).2⟩
theorem rtch_any (c : Cp) (f n ty : Int) (w : World) (hc : FitC c) (f0 : 0 ≤ f) (f1 : f < 18446744073709551616) (n0 : 0 ≤ n) (n1 : n < 18446744073709551616) :
    Calls Try.prog 10 #[.agg #[.int .u64 c.b, .int .u64 c.t, .int .u64 c.a, .int .i64 c.p, .int .i64 c.y, .bool c.g], .int .u64 f, .int .u64 n, .int .i64 ty] w fun e w' => e = .returned (.bool (tch f n ty c)) ∧ Below w.heap.size w w' := by
  unfold tch
  rw [touch_same c.b c.t c.y c.g f n ty hc.b0 hc.b1 hc.t0 hc.t1 f0 f1 n0 n1]
  exact rtouches_any c.b c.t c.a c.p c.y c.g f n ty w hc.b0 hc.b1 hc.t0 hc.t1 f0 f1
theorem RmAt.marks {W : World} {R : Nat} {F : Nat → Prop} {m : Mm} (h : RmAt W R F m) : ∃ ka kc, W.cell? ⟨R, 2, none⟩ = some (.slice ka m.mks.length kc) ∧ Rd W ka m.mks.length (u64s (m.mks.map (32 * ·))) := by
  obtain ⟨na, ca, ka, nc, cc, kc, cs, h⟩ := h
  exact ⟨ka, kc, h.box.cell 2, h.rk.1⟩
theorem RmAt.okm {W : World} {R : Nat} {F : Nat → Prop} {m : Mm} (h : RmAt W R F m) : Okm m := by
  obtain ⟨na, ca, ka, nc, cc, kc, cs, h⟩ := h
  exact h.ok
set_option maxRecDepth 100000 in
set_option maxHeartbeats 4000000 in
theorem rleft_any (W : World) (R A : Nat) (F : Nat → Prop) (m : Mm) (pc : Cp) (rs : List Cp) (f n ty : Int) (hO : RmAt W R F m) (hm : McAt W A R pc rs) (f0 : 0 ≤ f) (f1 : f < 18446744073709551616) (n0 : 0 ≤ n) (n1 : n < 18446744073709551616) :
    Calls Try.prog 13 #[.pointer (some ⟨A, 0, none⟩), .int .u64 f, .int .u64 n, .int .i64 ty] W fun e W' => ∃ (ra : Option Addr) (rc : Nat), e = .returned (.slice ra (gran f n ty m).length rc) ∧ W'.ownsRow W.heap.size 22 1 (.slice ra (gran f n ty m).length rc) (gran f n ty m).length (u64s (gran f n ty m)) ∧ Below W.heap.size W W' := by
  have HO := Lib.hid hO
  have HM := Lib.hid hm
  have HG := Lib.hid (show gran f n ty m = (m.mks.map (32 * ·)).filter fun (x : Nat) => tch f n ty (loadC m (x : Int)).1 from rfl)
  have hml : m.mks.length ≤ 2048 := mks_len hO.okm
  obtain ⟨ka, kc, hk0, hk1⟩ := hO.marks
  obtain ⟨T, hT⟩ : ∃ T, m.mks.map (32 * ·) = T := ⟨_, rfl⟩
  obtain ⟨q, hq⟩ : ∃ q, m.mks.length = q := ⟨_, rfl⟩
  have hTq : T.length = q := by rw [← hT, List.length_map, hq]
  have HMK := Lib.hid (fun (x : Nat) (hx : x ∈ T) => mark_load hO.okm (x := x) (by rw [hT]; exact hx))
  have HFT := Lib.hid (fun x => capOf_fitE hO.okm x)
  have HTC := Lib.hid (fun c w (hc : FitC c) => rtch_any c f n ty w hc f0 f1 n0 n1)
  rw [hT] at HG hk1
  rw [hq] at hml hk0 hk1
  have HTQ := Lib.hid hTq
  have HK := Lib.hid (And.intro hk0 hk1)
  obtain ⟨S, hS⟩ : ∃ S, W.heap.size = S := ⟨_, rfl⟩
  have HS := Lib.hid hS
  rw [hS]
  have HL := Lib.hid hml
  clear hO hm hT hq hTq hS hml hk0 hk1 f0 f1 n0 n1
  go_enter Try.func13, Try.ntmps13
  go_wp2_with fail
  go_loopw [9, 10, 11, 12, 13] (fun v i c0 e0 t0 wr => ∃ (k : Nat) (ra : Option Addr) (rc : Nat) (d : Nat), i = .int .i64 (k : Int) ∧ k ≤ q ∧ v = .slice ra d rc ∧ d ≤ k ∧ Hid (d = ((T.take k).filter fun (x : Nat) => tch f n ty (loadC m (x : Int)).1).length) ∧ Hid (wr.ownsRow S 22 1 (.slice ra d rc) d (u64s ((T.take k).filter fun (x : Nat) => tch f n ty (loadC m (x : Int)).1))) ∧ Hid (Below S W wr)) (fun _ i _ _ _ _ => q - (intOf i).toNat)
  case atStart => exact ⟨0, none, 0, 0, rfl, Nat.zero_le _, rfl, Nat.le_refl _, Lib.hid (by simp), Lib.hid (by rw [List.take_zero]; exact World.ownsRow_nil _ _ _ 1), Lib.hid (Below.refl _ _)⟩
  case round =>
    obtain ⟨k, ra, rc, d, rfl, hk, rfl, hdk, HD, HOW, HB⟩ := hrel
    have hBW : Below W.heap.size W wr := by rw [HS.out]; exact HB.out
    have mem : wr.cell? ⟨A, 198, none⟩ = some (.pointer (some ⟨R, 0, none⟩)) := (HM.out.below hBW).mem
    have mk : wr.cell? ⟨R, 2, none⟩ = some (.slice ka q kc) := (hBW.cell (heap_lt_of_cell HK.out.1)).trans HK.out.1
    by_cases hlt : k < q
    · have hkl : k < T.length := by rw [HTQ.out]; exact hlt
      have hql := HL.out
      obtain ⟨g, off, hge, -, hc⟩ := (HK.out.2.below hBW).at_ hlt
      have hkc : ka = some ⟨g, off, none⟩ := hge
      subst hkc
      rw [u64s_get T k hkl] at hc
      have hsn := filter_snoc (p := fun (x : Nat) => tch f n ty (loadC m (x : Int)).1) hkl
      obtain ⟨x1, x2, x3, x4⟩ := HMK.out T[k] (List.getElem_mem hkl)
      obtain ⟨x, hx⟩ : ∃ x, T[k] = x := ⟨_, rfl⟩
      rw [hx] at hc hsn x1 x2 x3 x4
      (try dsimp only at hsn)
      rw [x4] at hsn
      have hfit := HFT.out x
      have C := Lib.hid (fun w (h : Below W.heap.size W w) => rloadC_any w R F m (HO.out.below h) x (by omega))
      rw [x4] at C
      obtain ⟨c, hcc⟩ : ∃ c, capOf m x = c := ⟨_, rfl⟩
      rw [hcc] at C hsn hfit
      (try dsimp only at C)
      (try dsimp only at hsn)
      obtain ⟨r, hrr⟩ : ∃ r, tch f n ty c = r := ⟨_, rfl⟩
      have CC := Lib.hid (fun w => HTC.out c w hfit)
      rw [hrr] at CC hsn
      have HSN := Lib.hid hsn
      obtain ⟨cb, ct, ca, cp, cy, cg⟩ := c
      rw [show (capC ⟨cb, ct, ca, cp, cy, cg⟩).toArray = #[.int .u64 cb, .int .u64 ct, .int .u64 ca, .int .i64 cp, .int .i64 cy, .bool cg] from rfl] at C
      simp only [] at CC
      have kk0 : (0 : Int) ≤ (k : Int) := by omega
      have kk1 : (k : Int) < (q : Int) := by omega
      have hd1 : decide ((k : Int) < (q : Int)) = true := decide_eq_true kk1
      have HLT := Lib.hid (And.intro hlt hql)
      have HBW := Lib.hid hBW
      clear hsn x1 x2 x3 x4 hx hcc hrr hkl hlt hk hql hBW hfit
      go_upto_region 5 with fail
      have HS0 := Lib.hid (And.intro mem (And.intro mk hc))
      obtain ⟨Z, hZ⟩ : ∃ Z, Obj.cells #[.int .u64 0, .int .u64 0, .int .u64 0, .int .i64 0, .int .i64 0, .bool false] 24 = Z := ⟨_, rfl⟩
      have HBZ : Hid (Below wr.heap.size wr (wr.alloc Z)) := Lib.hid (bAlloc (Below.refl _ _) _)
      have HSZ : Hid ((wr.alloc Z).heap.size = wr.heap.size + 1) := Lib.hid (size_alloc _ _)
      have HNB : Hid (A < wr.heap.size ∧ R < wr.heap.size ∧ g < wr.heap.size) := Lib.hid ⟨heap_lt_of_cell mem, heap_lt_of_cell mk, heap_lt_of_cell hc⟩
      rw [← hZ] at HBZ HSZ
      clear hZ
      have HSd : Hid (wr.drew.cell? ⟨A, 198, none⟩ = some (.pointer (some ⟨R, 0, none⟩)) ∧ wr.drew.cell? ⟨R, 2, none⟩ = some (.slice (some ⟨g, off, none⟩) q kc) ∧ wr.drew.cell? ⟨g, off + k, none⟩ = some (.int .u64 (x : Int))) := Lib.hid HS0.out
      go_cut [11, 12, 63] from 14 (fun s11 s12 s63 wx => ∃ P : Nat, s11 = .pointer (some ⟨P, 0, none⟩) ∧ s12 = .int .i64 0 ∧ s63 = undef ∧ Hid (Below wr.heap.size wr wx) ∧ Hid (BoxN wx P #[.int .u64 cb, .int .u64 ct, .int .u64 ca, .int .i64 cp, .int .i64 cy, .bool cg]))
      case first =>
        go_region_held3 (fun W => W.cell? ⟨A, 198, none⟩ = some (.pointer (some ⟨R, 0, none⟩)) ∧ W.cell? ⟨R, 2, none⟩ = some (.slice (some ⟨g, off, none⟩) q kc) ∧ W.cell? ⟨g, off + k, none⟩ = some (.int .u64 (x : Int)))
          (first | with_reducible exact HSd.out | with_reducible exact HS8.out | with_reducible exact HS9.out | with_reducible exact ⟨cell_set6 HNB.out.1 HS9.out.1, cell_set6 HNB.out.2.1 HS9.out.2.1, cell_set6 HNB.out.2.2 HS9.out.2.2⟩ | with_reducible exact ⟨cell_alloc _ HS8.out.1, cell_alloc _ HS8.out.2.1, cell_alloc _ HS8.out.2.2⟩ | with_reducible exact ⟨cell_alloc _ HSd.out.1, cell_alloc _ HSd.out.2.1, cell_alloc _ HSd.out.2.2⟩ | go_keep)
          (first
            | ((with_reducible refine (C.out wr.drew (HBW.out.trans (Below.drew (Below.refl _ _)))).mono ?_); rintro e w8 ⟨rfl, hb⟩; have hb := undrewB hb; have HS8 := Lib.hid (And.intro ((hb.cell (heap_lt_of_cell HS0.out.1)).trans HS0.out.1) (And.intro ((hb.cell (heap_lt_of_cell HS0.out.2.1)).trans HS0.out.2.1) ((hb.cell (heap_lt_of_cell HS0.out.2.2)).trans HS0.out.2.2))); have HB8 := Lib.hid hb; clear hb)
            | ((with_reducible refine (C.out (wr.alloc (.cells #[.int .u64 0, .int .u64 0, .int .u64 0, .int .i64 0, .int .i64 0, .bool false] 24)).drew (HBW.out.trans (Below.drew (HBZ.out.mono HBW.out.size)))).mono ?_); rintro e w9 ⟨rfl, hb⟩; have hb := undrewB hb; have hb9 : Below wr.heap.size wr w9 := HBZ.out.trans (hb.mono HBZ.out.size); have HS9 := Lib.hid (And.intro ((hb9.cell (heap_lt_of_cell HS0.out.1)).trans HS0.out.1) (And.intro ((hb9.cell (heap_lt_of_cell HS0.out.2.1)).trans HS0.out.2.1) ((hb9.cell (heap_lt_of_cell HS0.out.2.2)).trans HS0.out.2.2))); have HB9 := Lib.hid hb9; have X9 := Lib.hid (boxN_below (BoxN.new wr #[.int .u64 0, .int .u64 0, .int .u64 0, .int .i64 0, .int .i64 0, .bool false] 24) hb); have yz := hb.size; rw [size_alloc] at yz; have yf := X9.out.frozen; have yy := (boxN6 X9.out).1; obtain ⟨z0, z1, z2, z3, z4, z5⟩ := yy; clear hb hb9))
        · go_wp2_with fail
          go_meet
          exact ⟨w8.heap.size, rfl, rfl, rfl, Lib.hid (HB8.out.trans ((bAlloc (Below.refl _ _) _).mono HB8.out.size)), Lib.hid (BoxN.new w8 _ _)⟩
        · go_wp2_with fail
          go_meet
          exact ⟨wr.heap.size, rfl, rfl, rfl, Lib.hid (below_set6 HB9.out (Nat.le_refl _)), Lib.hid (boxN_mid wr.heap.size [.int .u64 cb, .int .u64 ct, .int .u64 ca, .int .i64 cp, .int .i64 cy, .bool cg] [] [.int .u64 0, .int .u64 0, .int .u64 0, .int .i64 0, .int .i64 0, .bool false] [] w9 rfl X9.out)⟩
      case rest =>
        obtain ⟨P, rfl, rfl, rfl, HX, HP⟩ := hcut
        obtain ⟨⟨c0, c1, c2, c3, c4, c5⟩, -⟩ := boxN6 HP.out
        have B2 := Lib.hid (HB.out.trans (HX.out.mono (by rw [← HS.out]; exact HB.out.size)))
        have HOW2 := Lib.hid (own_kp2 HOW.out (KP.of_below (fun _ => False) HX.out) (fun _ _ => id))
        have mem2 := (HX.out.cell (heap_lt_of_cell HS0.out.1)).trans HS0.out.1
        have mk2 := (HX.out.cell (heap_lt_of_cell HS0.out.2.1)).trans HS0.out.2.1
        have hc2 := (HX.out.cell (heap_lt_of_cell HS0.out.2.2)).trans HS0.out.2.2
        have HS2 := Lib.hid (And.intro mem2 (And.intro mk2 hc2))
        clear mem mk hc mem2 mk2 hc2 HSd HS0 HBZ HSZ HNB C HOW HB HBW
        go_wp2_with fail
        refine (CC.out _).mono ?_; rintro e w8 ⟨rfl, hb⟩
        have B8 := Lib.hid (B2.out.trans (hb.mono (by rw [← HS.out]; exact B2.out.size)))
        have HOW8 := Lib.hid (own_kp2 HOW2.out (KP.of_below (fun _ => False) hb) (fun _ _ => id))
        have mem := (hb.cell (heap_lt_of_cell HS2.out.1)).trans HS2.out.1
        have mk := (hb.cell (heap_lt_of_cell HS2.out.2.1)).trans HS2.out.2.1
        have hc := (hb.cell (heap_lt_of_cell HS2.out.2.2)).trans HS2.out.2.2
        clear hb CC c0 c1 c2 c3 c4 c5 HP HX HOW2 B2 HS2
        cases r with
        | false =>
          have h0 := HSN.out
          rw [if_neg (by decide), List.append_nil] at h0
          have HN1 : Hid (d = ((T.take (k + 1)).filter fun (x : Nat) => tch f n ty (loadC m (x : Int)).1).length) := Lib.hid (by rw [h0]; exact HD.out)
          have HN2 : Hid (w8.ownsRow S 22 1 (.slice ra d rc) d (u64s ((T.take (k + 1)).filter fun (x : Nat) => tch f n ty (loadC m (x : Int)).1))) := Lib.hid (by rw [h0]; exact HOW8.out)
          clear h0 HSN HOW8 HD
          obtain ⟨h1, h2⟩ := HLT.out
          go_wp2_with fail
          go_roundw
          case rel => exact ⟨k + 1, ra, rc, d, by go_num, by omega, rfl, by omega, HN1, HN2, B8⟩
          case measure => simp [intOf]; omega
        | true =>
          have h0 := HSN.out
          rw [if_pos rfl] at h0
          have hz8 : S ≤ w8.heap.size := by rw [← HS.out]; exact B8.out.size
          obtain ⟨U, hU⟩ : ∃ U, w8.alloc (.cells #[.int .u64 (x : Int)] 22) = U := ⟨_, rfl⟩
          have hbU : Below w8.heap.size w8 U := by rw [← hU]; exact bAlloc (Below.refl _ _) _
          have hrd : Rd U (some ⟨w8.heap.size, 0, none⟩) (1 * 1) [.int .u64 (x : Int)] := by rw [← hU]; exact Rd.lit w8 #[.int .u64 (x : Int)] 22 (by show 1 ≤ maxLen; decide)
          have ownU := own_kp2 HOW8.out (KP.of_below (fun _ => False) hbU) (fun _ _ => id)
          obtain ⟨h1, h2⟩ := HLT.out
          obtain ⟨a9, c9, W9, run9, own9, gr9, at9⟩ := run_appE (P := Try.prog) 33 22 (.int .u64 0) 1 8 Try.underlying33 infoU64 rfl (by decide) (by decide) U 33 S (.slice ra d rc) d _ ownU (some ⟨w8.heap.size, 0, none⟩) 1 1 [.int .u64 (x : Int)] hrd (fun u hu => by rw [List.mem_singleton] at hu; rw [hu]; rfl) (by omega) (Nat.le_trans hz8 hbU.size)
          rw [← hU] at run9
          have hb9 : Below S W W9 := by
            refine (B8.out.trans (hbU.mono hz8)).trans ?_
            refine ⟨gr9.os, gr9.tape, gr9.output, gr9.size, fun b hb => gr9.block b (Nat.lt_of_lt_of_le hb (Nat.le_trans hz8 hbU.size)) (fun e => ?_)⟩
            rcases ownU.2 with ⟨e1, -⟩ | ⟨g', cap', cur', e1, hg', -⟩
            · rw [e1] at e; cases e
            · rw [e1] at e; cases e; exact absurd hb (Nat.not_lt.2 hg')
          have B9 := Lib.hid hb9
          have HN1 : Hid (d + 1 = ((T.take (k + 1)).filter fun (x : Nat) => tch f n ty (loadC m (x : Int)).1).length) := Lib.hid (by rw [h0, List.length_append, ← HD.out]; rfl)
          have HN2 : Hid (W9.ownsRow S 22 1 (.slice a9 (d + 1) c9) (d + 1) (u64s ((T.take (k + 1)).filter fun (x : Nat) => tch f n ty (loadC m (x : Int)).1))) := Lib.hid (by rw [h0, u64s_app]; exact own9)
          have RUN := run9
          clear h0 h1 h2 HSN HOW8 HD hU hbU hrd ownU own9 gr9 at9 hb9 hz8 B8 run9
          obtain ⟨h1, h2⟩ := HLT.out
          go_wp2_with (refine wpList_appR _ rfl _ _ rfl _ _ _ _ rfl rfl RUN ?_)
          go_roundw
          case rel => exact ⟨k + 1, a9, c9, d + 1, by go_num, by omega, rfl, by omega, HN1, HN2, B9⟩
          case measure => simp [intOf]; omega
    · obtain rfl : k = q := by omega
      have ht : T.take k = T := List.take_of_length_le (by rw [HTQ.out]; exact Nat.le_refl _)
      have hd := HD.out
      have ho := HOW.out
      rw [ht, ← HG.out] at hd ho
      have HD2 := Lib.hid hd
      have HO2 := Lib.hid ho
      have hd1 : decide ((k : Int) < (k : Int)) = false := by simp
      have hd2 : decide (k < k) = false := by simp
      clear hd ho ht hBW hlt hk
      go_wp2_with fail
      go_ret
      exact ⟨ra, rc, by rw [← HD2.out]; rfl, by rw [← HD2.out]; exact HO2.out, HB.out⟩
end Go.Proofs.Ytinflemamegdfaa

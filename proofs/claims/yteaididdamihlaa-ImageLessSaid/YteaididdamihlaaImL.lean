/- No segment may both be stored to and run: contract of ImageLess. -/
import Derived.Test.YteaididdamihlaaImX
namespace Go.Proofs.Yteaididdamihlaa.Ce
set_option linter.unusedVariables false
set_option linter.unusedSimpArgs false
open Go.Joins Go.ChangeShapes Go.WideShapes Go.ChangeAt Go.RowKit Go.Deep

theorem wf_u64' {x : Int} (h : (Lit.int .u64 x).wf = true) : 0 ≤ x ∧ x < 18446744073709551616 := wf_u64b h
theorem right_facts3 {o : Ob} {b : Nat} (h : (decide (checkF o = 0) && (decide (b % 256 = 0) && decide (b < 16777216))) = true) : segsB 0 o.segs = true ∧ b % 256 = 0 ∧ b < 16777216 := by
  simp only [Bool.and_eq_true, decide_eq_true_eq] at h
  obtain ⟨-, -, h3, -⟩ := (check0 o).1 h.1
  exact ⟨h3, h.2.1, h.2.2⟩
theorem own_op {l : List Seg} {b : Int} {ox oy op : Int} (h : ownF l b = (ox, oy, op)) : op = 129 ∨ op = 146 ∨ op = 155 := by
  unfold ownF at h
  split at h
  · rename_i s hs
    split at h
    · rename_i h0
      obtain ⟨k, hk, e, hp⟩ := firstI_at (p := ownB) (l := l) h0
      rw [e, Int.toNat_natCast, List.getElem?_eq_getElem hk] at hs
      obtain rfl := Option.some.inj hs
      obtain ⟨-, h2⟩ := Prod.mk.inj h
      obtain ⟨-, h3⟩ := Prod.mk.inj h2
      unfold ownB at hp
      rw [Bool.or_eq_true, beq_iff_eq, beq_iff_eq] at hp
      rcases hp with hp | hp <;> rw [hp] at h3
      · exact Or.inr (Or.inl (by rw [← h3]; decide))
      · exact Or.inr (Or.inr (by rw [← h3]; decide))
    · obtain ⟨-, h2⟩ := Prod.mk.inj h
      obtain ⟨-, h3⟩ := Prod.mk.inj h2
      exact Or.inl h3.symm
  · obtain ⟨-, h2⟩ := Prod.mk.inj h
    obtain ⟨-, h3⟩ := Prod.mk.inj h2
    exact Or.inl h3.symm
theorem perm_five {f : Int} (h1 : 1 ≤ f) (h5 : f ≤ 5) : (f = 1 ∧ permF f = 9) ∨ (f = 2 ∧ permF f = 18) ∨ (f = 3 ∧ permF f = 27) ∨ (f = 4 ∧ permF f = 4) ∨ (f = 5 ∧ permF f = 13) := by
  rcases (show f = 1 ∨ f = 2 ∨ f = 3 ∨ f = 4 ∨ f = 5 by omega) with rfl | rfl | rfl | rfl | rfl <;> decide
set_option maxHeartbeats 8000000 in
set_option maxRecDepth 100000 in
theorem less_walk (w : World) (B : Nat) (hB0 : w.heap.size = B) (v0 : ByteArray) (na ga sa ra ia fa : Option Addr) (n1 nc m gc ms sc n4 rc n5 ic n6 fc : Nat) (o : Ob) (hoe : objV o = .agg #[.string v0, .slice na n1 nc, .slice ga m gc, .slice sa ms sc, .slice ra n4 rc, .slice ia n5 ic, .slice fa n6 fc]) (hm : o.segs.length = m) (hga : o.ga = ga) (hr : RdOb w o) (hf : FitOb o) (b : Nat) :
    Calls Try.prog 4 #[.agg #[.string v0, .slice na n1 nc, .slice ga m gc, .slice sa ms sc, .slice ra n4 rc, .slice ia n5 ic, .slice fa n6 fc], .int .u64 (b : Int)] w fun e w' => e = .returned (.bool true) ∧ Below B w w' := by
  have HR := Lib.hid hr
  have HF := Lib.hid hf
  have HOE := Lib.hid hoe
  have HM := Lib.hid hm
  have HGA := Lib.hid hga
  clear hr hf hoe hm hga
  have B0 : Hid (Below B w (w.alloc (.cells #[.string v0, .slice na n1 nc, .slice ga m gc, .slice sa ms sc, .slice ra n4 rc, .slice ia n5 ic, .slice fa n6 fc] 28))) := Lib.hid (by rw [← hB0]; exact bAlloc (Below.refl _ _) _)
  have O0 : Hid (BoxN (w.alloc (.cells #[.string v0, .slice na n1 nc, .slice ga m gc, .slice sa ms sc, .slice ra n4 rc, .slice ia n5 ic, .slice fa n6 fc] 28)) B #[.string v0, .slice na n1 nc, .slice ga m gc, .slice sa ms sc, .slice ra n4 rc, .slice ia n5 ic, .slice fa n6 fc]) := Lib.hid (by rw [← hB0]; exact BoxN.new w _ _)
  go_enter Try.func4, Try.ntmps4
  go_upto_region 1 with fail
  obtain ⟨W0, hW0⟩ : ∃ W, w.alloc (.cells #[.string v0, .slice na n1 nc, .slice ga m gc, .slice sa ms sc, .slice ra n4 rc, .slice ia n5 ic, .slice fa n6 fc] 28) = W := ⟨_, rfl⟩
  rw [hW0] at B0 O0 ⊢
  have HBW : Hid (w.heap.size ≤ B) := Lib.hid (Nat.le_of_eq hB0)
  (try rw [hB0])
  clear hW0 hB0
  go_wp2_with fail
  refine (awake_any _).mono ?_; rintro e W1 ⟨rfl, hb⟩
  have O1 := Lib.hid (boxN_below O0.out hb)
  have B1 := Lib.hid (B0.out.trans (hb.mono (Nat.le_of_lt O0.out.lt)))
  clear hb B0 O0
  obtain ⟨q1, hq1⟩ : ∃ q, (decide (checkF o = 0) && (decide (b % 256 = 0) && decide (b < 16777216))) = q := ⟨_, rfl⟩
  have HQ := Lib.hid hq1
  have C := Lib.hid (right_ok o b W1 (HR.out.below (B1.out.mono HBW.out)) HF.out)
  rw [hq1, HOE.out] at C
  clear hq1
  have o0 : W1.cell? ⟨B, 0, none⟩ = some (.string v0) := O1.out.cell 0
  have o1 : W1.cell? ⟨B, 1, none⟩ = some (.slice na n1 nc) := O1.out.cell 1
  have o2 : W1.cell? ⟨B, 2, none⟩ = some (.slice ga m gc) := O1.out.cell 2
  have o3 : W1.cell? ⟨B, 3, none⟩ = some (.slice sa ms sc) := O1.out.cell 3
  have o4 : W1.cell? ⟨B, 4, none⟩ = some (.slice ra n4 rc) := O1.out.cell 4
  have o5 : W1.cell? ⟨B, 5, none⟩ = some (.slice ia n5 ic) := O1.out.cell 5
  have o6 : W1.cell? ⟨B, 6, none⟩ = some (.slice fa n6 fc) := O1.out.cell 6
  go_wp2_with fail
  refine C.out.mono ?_; rintro e W2 ⟨rfl, hb⟩
  have O2 := Lib.hid (boxN_below O1.out hb)
  have B2 := Lib.hid (B1.out.trans (hb.mono (Nat.le_of_lt O1.out.lt)))
  clear hb C O1 B1 o0 o1 o2 o3 o4 o5 o6
  cases q1 with
  | false =>
    go_wp2_with fail
    go_ret
    exact ⟨rfl, B2.out⟩
  | true =>
    obtain ⟨hsb, hb0, hbb⟩ := right_facts3 HQ.out
    have HSB := Lib.hid hsb
    have HOKS := Lib.hid (segs_ok hsb)
    have HBB := Lib.hid (And.intro hbb hb0)
    obtain ⟨⟨ox, oy, op⟩, how⟩ : ∃ p, ownF o.segs (b : Int) = p := ⟨_, rfl⟩
    have HOP := Lib.hid (own_op how)
    have C1 := Lib.hid (fun w2 (h : Below w.heap.size w w2) => own_any (.string v0) (.slice na n1 nc) (.slice sa ms sc) (.slice ra n4 rc) (.slice ia n5 ic) (.slice fa n6 fc) ga m gc o.segs (b : Int) ox oy op w2 HM.out (by rw [← HGA.out]; exact (HR.out.below h).sg) (by rw [← HM.out]; exact HF.out.sgl) HOKS.out (by omega) (by have := HBB.out.1; omega) how)
    have C3 := Lib.hid (fun w2 (h : Below w.heap.size w w2) k (s : Seg) x y pm hkm hsk hz0 hz1 hx hy h1 h2 h3 h4 h5 => part_any (.string v0) (.slice na n1 nc) (.slice sa ms sc) (.slice ra n4 rc) (.slice ia n5 ic) (.slice fa n6 fc) ga m gc o.segs (b : Int) k s x y pm w2 HM.out (by rw [← HGA.out]; exact (HR.out.below h).sg) hkm (by rw [← HM.out]; exact HF.out.sgl) hsk (by omega) hz0 hz1 hx hy h1 h2 h3 h4 h5)
    have HFAC : Hid (∀ k (hk : k < o.segs.length), 0 ≤ o.segs[k].place ∧ 0 ≤ o.segs[k].size ∧ o.segs[k].place + o.segs[k].size ≤ 16384 ∧ o.segs[k].place % 256 = 0 ∧ 1 ≤ o.segs[k].flags ∧ o.segs[k].flags ≤ 5 ∧ 1 ≤ o.segs[k].size) := Lib.hid (fun k hk => by
      have h1 := HOKS.out.pz _ (List.getElem_mem hk)
      have h2 := segs_at HSB.out k hk
      exact ⟨h1.1, h1.2.1, h1.2.2, h2.1.1, h2.1.2.2.2.2.1, h2.1.2.2.2.2.2, h2.1.2.1⟩)
    have HMM : Hid (m < 9223372036854775808) := Lib.hid (by have h := HF.out.sgl; rw [HM.out] at h; exact h)
    clear hsb hb0 hbb how
    go_wp2_with fail
    go_loopw [7, 8, 9, 10, 11, 12] (fun i _ _ _ _ _ wr => ∃ k : Nat, i = .int .i64 k ∧ k ≤ m ∧ Hid (Below B w wr) ∧ Hid (BoxN wr B #[.string v0, .slice na n1 nc, .slice ga m gc, .slice sa ms sc, .slice ra n4 rc, .slice ia n5 ic, .slice fa n6 fc])) (fun i _ _ _ _ _ _ => m - (intOf i).toNat)
    case atStart => exact ⟨0, rfl, by omega, B2, O2⟩
    case round =>
      clear B2 O2
      obtain ⟨k, rfl, hk, B2, O2⟩ := hrel
      have o0 : wr.cell? ⟨B, 0, none⟩ = some (.string v0) := O2.out.cell 0
      have o1 : wr.cell? ⟨B, 1, none⟩ = some (.slice na n1 nc) := O2.out.cell 1
      have o2 : wr.cell? ⟨B, 2, none⟩ = some (.slice ga m gc) := O2.out.cell 2
      have o3 : wr.cell? ⟨B, 3, none⟩ = some (.slice sa ms sc) := O2.out.cell 3
      have o4 : wr.cell? ⟨B, 4, none⟩ = some (.slice ra n4 rc) := O2.out.cell 4
      have o5 : wr.cell? ⟨B, 5, none⟩ = some (.slice ia n5 ic) := O2.out.cell 5
      have o6 : wr.cell? ⟨B, 6, none⟩ = some (.slice fa n6 fc) := O2.out.cell 6
      by_cases hlt : k < m
      · have hkl : k < o.segs.length := by rw [HM.out]; exact hlt
        have hsk : o.segs[k]? = some o.segs[k] := List.getElem?_eq_getElem hkl
        obtain ⟨z0, z1, z2, z3, z4, z5, z6⟩ := HFAC.out k hkl
        have hm8 : m ≤ 6 ∨ True := Or.inr trivial
        obtain ⟨s, hs⟩ : ∃ s, o.segs[k] = s := ⟨_, rfl⟩
        have HSK := Lib.hid hs
        rw [hs] at hsk z0 z1 z2 z3 z4 z5 z6
        have hpi := permF_in s.flags
        have hbb := HBB.out.1
        have hp5 := perm_five z4 z5
        obtain ⟨x, hx⟩ : ∃ x : Nat, (b : Int) + s.place = x := ⟨((b : Int) + s.place).toNat, by omega⟩
        obtain ⟨y, hy⟩ : ∃ y : Nat, (x : Int) + s.size = y := ⟨((x : Int) + s.size).toNat, by omega⟩
        obtain ⟨pm, hpm⟩ : ∃ p, permF s.flags = p := ⟨_, rfl⟩
        have C := Lib.hid (C3.out wr (B2.out.mono HBW.out) k s x y pm hlt hsk z0 z1 hx hy (by omega) (by omega) (by omega) hpm (by omega))
        obtain ⟨pl, sz, fl, bys, ba, bc⟩ := s
        simp only at hx hy hpm z0 z1 z2 z3 z4 z5 z6 hp5
        rw [hpm] at hp5
        obtain ⟨bl, hbl⟩ : ∃ n, bys.length = n := ⟨_, rfl⟩
        have HBL := Lib.hid hbl
        have w1 : IntKind.u64.wrap ((y : Int) - (x : Int)) = sz := by rw [IntKind.wrap_u64]; omega
        have HX := Lib.hid (show (x : Int) = b + pl ∧ x % 256 = 0 by have := HBB.out.2; omega)
        obtain ⟨xq, hxq⟩ : ∃ q, x / 256 = q := ⟨_, rfl⟩
        have w2 : (x : Int) / 256 = (xq : Int) := by omega
        have w3 : IntKind.u64.wrap (xq : Int) = (xq : Int) := by rw [IntKind.wrap_u64]; omega
        have HXQ := Lib.hid hxq
        have kk0 : (0 : Int) ≤ (k : Int) := by omega
        have kk1 : (k : Int) < (m : Int) := by omega
        have HK := Lib.hid hlt
        clear hsk hpi hbb hx hy hpm z0 z1 z2 z3 z4 z5 z6 hbl hxq hm8 hlt hk
        go_wp2_with fail
        refine C.out.mono ?_; rintro e W5 ⟨rfl, hb⟩
        have O5 := Lib.hid (boxN_below O2.out hb)
        have B5 := Lib.hid (B2.out.trans (hb.mono (Nat.le_of_lt O2.out.lt)))
        clear hb C o0 o1 o2 o3 o4 o5 o6 O2 B2
        go_upto_region 9 with fail
        obtain ⟨W6, hW6⟩ : ∃ W, W5.alloc (.cells #[.int .u64 (x : Int), .int .u64 (y : Int), .int .u64 (x : Int), .int .i64 pm, .int .i64 (-1), .bool true] 34) = W := ⟨_, rfl⟩
        rw [hW6]
        have B6 : Hid (Below B w W6) := Lib.hid (by rw [← hW6]; exact B5.out.alloc (by have := O5.out.lt; omega) _)
        have O6 : Hid (BoxN W6 B #[.string v0, .slice na n1 nc, .slice ga m gc, .slice sa ms sc, .slice ra n4 rc, .slice ia n5 ic, .slice fa n6 fc]) := Lib.hid (by rw [← hW6]; exact boxN_below O5.out (bAlloc (Below.refl _ _) _))
        have R6 : Hid (BoxN W6 W5.heap.size #[.int .u64 (x : Int), .int .u64 (y : Int), .int .u64 (x : Int), .int .i64 pm, .int .i64 (-1), .bool true]) := Lib.hid (by rw [← hW6]; exact BoxN.new W5 _ _)
        clear hW6 O5 B5
        obtain ⟨R, hR⟩ : ∃ R, W5.heap.size = R := ⟨_, rfl⟩
        rw [hR] at R6 ⊢
        clear hR
        have o2 := O6.out.cell 2
        have hg6 := ((HR.out.below (B6.out.mono HBW.out)).sg).at_ (show k < o.segs.length by rw [HM.out]; exact HK.out)
        obtain ⟨g', off', hge', -, d0, d1, d2, d3⟩ := hg6
        rw [HSK.out] at d0 d1 d2 d3
        simp only at d0 d1 d2 d3
        rw [HBL.out] at d3
        rw [HGA.out] at hge'
        subst hge'
        go_upto_region 10 with fail
        obtain ⟨W7, hW7⟩ : ∃ W, W6.alloc (.cells #[.int .u64 pl, .int .u64 sz, .int .i64 fl, .slice ba bl bc] 40) = W := ⟨_, rfl⟩
        rw [hW7]
        have B7 : Hid (Below B w W7) := Lib.hid (by rw [← hW7]; exact B6.out.alloc (by have := O6.out.lt; omega) _)
        have O7 : Hid (BoxN W7 B #[.string v0, .slice na n1 nc, .slice (some ⟨g', off', none⟩) m gc, .slice sa ms sc, .slice ra n4 rc, .slice ia n5 ic, .slice fa n6 fc]) := Lib.hid (by rw [← hW7]; exact boxN_below O6.out (bAlloc (Below.refl _ _) _))
        have R7 : Hid (BoxN W7 R #[.int .u64 (x : Int), .int .u64 (y : Int), .int .u64 (x : Int), .int .i64 pm, .int .i64 (-1), .bool true]) := Lib.hid (by rw [← hW7]; exact boxN_below R6.out (bAlloc (Below.refl _ _) _))
        have S7 : Hid (BoxN W7 W6.heap.size #[.int .u64 pl, .int .u64 sz, .int .i64 fl, .slice ba bl bc]) := Lib.hid (by rw [← hW7]; exact BoxN.new W6 _ _)
        clear hW7 o2 d0 d1 d2 d3 O6 B6 R6
        obtain ⟨Q, hQ⟩ : ∃ Q, W6.heap.size = Q := ⟨_, rfl⟩
        rw [hQ] at S7 ⊢
        clear hQ
        have c0 := R7.out.cell 0
        have c1 := R7.out.cell 1
        have c3 := R7.out.cell 3
        have c4 := R7.out.cell 4
        have c5 := R7.out.cell 5
        have s1 := S7.out.cell 1
        have s2 := S7.out.cell 2
        have hpm5 : ∃ v : Int, v = pm := ⟨_, rfl⟩
        obtain ⟨CR, hCR⟩ : ∃ a : Array Value, #[.int .u64 (x : Int), .int .u64 (y : Int), .int .u64 (x : Int), .int .i64 (pm), .int .i64 (-1), .bool true] = a := ⟨_, rfl⟩
        have HCR := Lib.hid hCR
        rw [hCR] at R7
        clear hCR hpm5
        rcases hp5 with ⟨rfl, rfl⟩ | ⟨rfl, rfl⟩ | ⟨rfl, rfl⟩ | ⟨rfl, rfl⟩ | ⟨rfl, rfl⟩
        all_goals
          go_wp2_with fail
          clear c0 c1 c3 c4 c5 s1 s2
          go_loopw [11, 12] (fun jv _ wq => ∃ j : Nat, jv = .int .i64 j ∧ j ≤ k ∧ Hid (Below B w wq) ∧ Hid (BoxN wq B #[.string v0, .slice na n1 nc, .slice (some ⟨g', off', none⟩) m gc, .slice sa ms sc, .slice ra n4 rc, .slice ia n5 ic, .slice fa n6 fc]) ∧ Hid (BoxN wq R CR)) (fun jv _ _ => k - (intOf jv).toNat)
          case atStart => exact ⟨0, rfl, by omega, B7, O7, R7⟩
          case round =>
            clear B7 O7 R7 S7
            obtain ⟨j, rfl, hj, B8, O8, R8⟩ := hrel
            have jj0 : (0 : Int) ≤ (j : Int) := by omega
            have jj2 : (k : Int) < 9223372036854775807 := by have := HMM.out; have := HK.out; omega
            by_cases hjk : j < k
            · have jj1 : (j : Int) < (k : Int) := by omega
              have hjl : j < o.segs.length := by rw [HM.out]; have := HK.out; omega
              have hsj : o.segs[j]? = some o.segs[j] := List.getElem?_eq_getElem hjl
              obtain ⟨z0, z1, z2, z3, z4, z5, z6⟩ := HFAC.out j hjl
              have hup := segs_up HSB.out j k hjk (by rw [HM.out]; exact HK.out)
              rw [HSK.out] at hup
              obtain ⟨s2, hs2⟩ : ∃ s, o.segs[j] = s := ⟨_, rfl⟩
              rw [hs2] at hsj z0 z1 z2 z3 z4 z5 z6 hup
              simp only at hup
              have hpi := permF_in s2.flags
              have hbb := HBB.out.1
              obtain ⟨x2, hx2⟩ : ∃ x : Nat, (b : Int) + s2.place = x := ⟨((b : Int) + s2.place).toNat, by omega⟩
              obtain ⟨y2, hy2⟩ : ∃ y : Nat, (x2 : Int) + s2.size = y := ⟨((x2 : Int) + s2.size).toNat, by omega⟩
              obtain ⟨pm2, hpm2⟩ : ∃ p, permF s2.flags = p := ⟨_, rfl⟩
              have D := Lib.hid (C3.out wr (B8.out.mono HBW.out) j s2 x2 y2 pm2 (by have := HK.out; omega) hsj z0 z1 hx2 hy2 (by omega) (by omega) (by omega) hpm2 (by omega))
              obtain ⟨tt, htt⟩ : ∃ q : Nat, y2 = q + 1 := ⟨y2 - 1, by omega⟩
              obtain ⟨tq, htq⟩ : ∃ q, tt / 256 = q := ⟨_, rfl⟩
              have v1 : IntKind.u64.wrap ((y2 : Int) - 1) = (tt : Int) := by rw [IntKind.wrap_u64]; omega
              have v2 : (tt : Int) / 256 = (tq : Int) := by omega
              have v3 : IntKind.u64.wrap (tq : Int) = (tq : Int) := by rw [IntKind.wrap_u64]; omega
              have v4 : ¬ xq ≤ tq := by have h1 := HX.out; have h2 := HXQ.out; omega
              have v5 : ¬ (xq : Int) ≤ (tq : Int) := by omega
              have v6 : decide (xq ≤ tq) = false := decide_eq_false v4
              have v7 : decide ((xq : Int) ≤ (tq : Int)) = false := decide_eq_false v5
              have HJ := Lib.hid hjk
              have o0 : wr.cell? ⟨B, 0, none⟩ = some (.string v0) := O8.out.cell 0
              have o1 : wr.cell? ⟨B, 1, none⟩ = some (.slice na n1 nc) := O8.out.cell 1
              have o2 : wr.cell? ⟨B, 2, none⟩ = some (.slice (some ⟨g', off', none⟩) m gc) := O8.out.cell 2
              have o3 : wr.cell? ⟨B, 3, none⟩ = some (.slice sa ms sc) := O8.out.cell 3
              have o4 : wr.cell? ⟨B, 4, none⟩ = some (.slice ra n4 rc) := O8.out.cell 4
              have o5 : wr.cell? ⟨B, 5, none⟩ = some (.slice ia n5 ic) := O8.out.cell 5
              have o6 : wr.cell? ⟨B, 6, none⟩ = some (.slice fa n6 fc) := O8.out.cell 6
              clear hjl hsj z0 z1 z2 z3 z4 z5 z6 hup hs2 hpi hbb hx2 hy2 hpm2 htt htq v4 v5 hjk hj
              go_wp2_with fail
              refine D.out.mono ?_; rintro e W8 ⟨rfl, hb⟩
              have O9 := Lib.hid (boxN_below O8.out hb)
              have R9 := Lib.hid (boxN_below R8.out hb)
              have B9 := Lib.hid (B8.out.trans (hb.mono (Nat.le_of_lt O8.out.lt)))
              clear hb D o0 o1 o2 o3 o4 o5 o6 O8 B8 R8
              go_upto_region 17 with fail
              obtain ⟨W9, hW9⟩ : ∃ W, W8.alloc (.cells #[.int .u64 (x2 : Int), .int .u64 (y2 : Int), .int .u64 (x2 : Int), .int .i64 pm2, .int .i64 (-1), .bool true] 34) = W := ⟨_, rfl⟩
              rw [hW9]
              have BA : Hid (Below B w W9) := Lib.hid (by rw [← hW9]; exact B9.out.alloc (by have := O9.out.lt; omega) _)
              have OA : Hid (BoxN W9 B #[.string v0, .slice na n1 nc, .slice (some ⟨g', off', none⟩) m gc, .slice sa ms sc, .slice ra n4 rc, .slice ia n5 ic, .slice fa n6 fc]) := Lib.hid (by rw [← hW9]; exact boxN_below O9.out (bAlloc (Below.refl _ _) _))
              have RA : Hid (BoxN W9 R CR) := Lib.hid (by rw [← hW9]; exact boxN_below R9.out (bAlloc (Below.refl _ _) _))
              have DA : Hid (BoxN W9 W8.heap.size #[.int .u64 (x2 : Int), .int .u64 (y2 : Int), .int .u64 (x2 : Int), .int .i64 pm2, .int .i64 (-1), .bool true]) := Lib.hid (by rw [← hW9]; exact BoxN.new W8 _ _)
              clear hW9 O9 B9 R9
              obtain ⟨D, hD⟩ : ∃ D, W8.heap.size = D := ⟨_, rfl⟩
              rw [hD] at DA ⊢
              clear hD
              have R9 := RA.out
              rw [← HCR.out] at R9
              have c0 := R9.cell 0
              have d1 := DA.out.cell 1
              clear R9
              go_wp2_with fail
              first
              | (refine ⟨?_, ?measure⟩; (repeat apply Exists.intro); refine ⟨?rel, rfl⟩)
              | refine ⟨?rel, ?measure⟩
              case rel => exact ⟨j + 1, by go_num, HJ.out, BA, OA, RA⟩
              case measure => have := HJ.out; simp [intOf]; omega
            · have hjk2 : j = k := by omega
              subst hjk2
              clear hjk hj HCR
              have HMM2 := HMM.out
              go_wp2_with fail
              first
              | (refine ⟨?_, ?measure⟩; (repeat apply Exists.intro); refine ⟨?rel, rfl⟩)
              | refine ⟨?rel, ?measure⟩
              case rel => exact ⟨j + 1, by go_num, HK.out, B8, O8⟩
              case measure => have := HK.out; simp [intOf]; omega
      · have hkm : k = m := by omega
        subst hkm
        have C := Lib.hid (C1.out wr (B2.out.mono HBW.out))
        clear hlt hk
        go_wp2_with fail
        refine C.out.mono ?_; rintro e W5 ⟨rfl, hb⟩
        have O5 := Lib.hid (boxN_below O2.out hb)
        have B5 := Lib.hid (B2.out.trans (hb.mono (Nat.le_of_lt O2.out.lt)))
        clear hb C o0 o1 o2 o3 o4 o5 o6 O2 B2
        go_upto_region 20 with fail
        obtain ⟨W6, hW6⟩ : ∃ W, W5.alloc (.cells #[.int .u64 ox, .int .u64 oy, .int .u64 ox, .int .i64 op, .int .i64 (-1), .bool true] 34) = W := ⟨_, rfl⟩
        rw [hW6]
        have B6 : Hid (Below B w W6) := Lib.hid (by rw [← hW6]; exact B5.out.alloc (by have := O5.out.lt; omega) _)
        have R6 : Hid (BoxN W6 W5.heap.size #[.int .u64 ox, .int .u64 oy, .int .u64 ox, .int .i64 op, .int .i64 (-1), .bool true]) := Lib.hid (by rw [← hW6]; exact BoxN.new W5 _ _)
        clear hW6 O5 B5
        obtain ⟨R, hR⟩ : ∃ R, W5.heap.size = R := ⟨_, rfl⟩
        rw [hR] at R6 ⊢
        clear hR
        have c3 := R6.out.cell 3
        have hop := HOP.out
        clear C1
        rcases hop with h | h | h
        all_goals
          subst h
          go_wp2_with fail
          go_ret
          exact ⟨rfl, B6.out⟩
  end Go.Proofs.Yteaididdamihlaa.Ce

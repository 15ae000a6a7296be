/- The document's Parse: contract. -/
import Derived.Test.YtknldomgmogccaaCgL
import Derived.Test.YtknldomgmogccaaCgG
import Derived.Test.YtknldomgmogccaaCgK
import Derived.Test.YtknldomgmogccaaCeQ
import Derived.Deep.CutBlock
namespace Go.Proofs.Ytknldomgmogccaa
set_option linter.unusedVariables false
set_option linter.unusedSimpArgs false
open Go.Joins Go.ChangeShapes Go.WideShapes Go.ChangeAt Go.RowKit Go.Deep

/-- a row whose cells lie in a block from B on -/
def RdIn (B : Nat) (W : World) (a : Option Addr) (m : Nat) (xs : List Value) : Prop := Rd W a m xs ∧ (0 < m → ∃ b off, a = some ⟨b, off, none⟩ ∧ B ≤ b)
theorem RdIn.kp {B n : Nat} {S : Nat → Prop} {W W' : World} {a : Option Addr} {m : Nat} {xs : List Value} (h : RdIn B W a m xs) (hk : KP n S W W') (hn : W.heap.size ≤ n) (hS : ∀ b, B ≤ b → ¬ S b) : RdIn B W' a m xs :=
  ⟨hk.rd h.1 fun b off h0 e => by
    obtain ⟨b', off', e', hl⟩ := h.2 h0
    obtain ⟨b2, off2, e2, hl2, -⟩ := h.1.2 h0
    rw [e] at e' e2; cases e'; cases e2
    exact ⟨by omega, hS _ hl⟩, h.2⟩
theorem rdIn_of_own {B B' k n c : Nat} {W : World} {e : TypeId} {a : Option Addr} {xs : List Value} (h : W.ownsRow B e k (.slice a n c) n xs) (hB : B' ≤ B) : RdIn B' W a (n * k) xs :=
  ⟨own_rd h, fun h0 => by
    rcases h.2 with ⟨e, e0⟩ | ⟨g, cap, cur, e, hg, -⟩
    · subst e0; simp at h0
    · cases e; exact ⟨g, 0, rfl, Nat.le_trans hB hg⟩⟩
theorem RrAt.drew {base R : Nat} {W : World} {b : List UInt8} {s : St} (h : RrAt base R W b s) : RrAt base R W.drew b s := ⟨h.lo, h.len, h.box⟩
theorem below_kp {w V V' : World} {S : Nat → Prop} (h : Below w.heap.size w V) (hk : KP V.heap.size S V V') (hS : ∀ q, q < w.heap.size → ¬ S q) : Below w.heap.size w V' :=
  ⟨hk.os.trans h.os, hk.tape.trans h.tape, hk.output.trans h.output, Nat.le_trans h.size hk.size, fun q hq => (hk.block q (Nat.lt_of_lt_of_le hq h.size) (hS q hq)).trans (h.block q hq)⟩
theorem five (b : List UInt8) (h : 5 ≤ b.length) : ∃ c0 c1 c2 c3 c4 t, b = c0 :: c1 :: c2 :: c3 :: c4 :: t := by
  match b, h with
  | c0 :: c1 :: c2 :: c3 :: c4 :: t, _ => exact ⟨c0, c1, c2, c3, c4, t, rfl⟩
theorem take5_len {b : List UInt8} (h : (b.take 5 == magicL) = true) : 5 ≤ b.length := by
  have h1 : b.take 5 = magicL := by simpa using h
  have h2 := congrArg List.length h1
  rw [List.length_take] at h2
  have h3 : magicL.length = 5 := rfl
  omega
theorem u8n (c : UInt8) (k : Nat) (hk : k < 256) : (c == UInt8.ofNat k) = decide (c.toNat = k) := by
  rw [Bool.eq_iff_iff]
  simp only [beq_iff_eq, decide_eq_true_eq]
  constructor
  · intro h; rw [h]; simp; omega
  · intro h; rw [← h]; simp
theorem magic_of (c0 c1 c2 c3 c4 : UInt8) (t : List UInt8) : ((c0 :: c1 :: c2 :: c3 :: c4 :: t).take 5 == magicL) = (decide (c0.toNat = 67) && (decide (c1.toNat = 69) && (decide (c2.toNat = 76) && (decide (c3.toNat = 70) && decide (c4.toNat = 1))))) := by
  rw [← u8n c0 67 (by decide), ← u8n c1 69 (by decide), ← u8n c2 76 (by decide), ← u8n c3 70 (by decide), ← u8n c4 1 (by decide)]
  show (([c0, c1, c2, c3, c4] : List UInt8) == [67, 69, 76, 70, 1]) = _
  simp [Bool.and_assoc]
  try rfl
theorem parse_magic {b : List UInt8} (h : (b.take 5 == magicL) = false) : parseF b = (emptyC, 100) := by
  have hm : magicP ⟨b, 0⟩ = ⟨b, 100⟩ := by unfold magicP; rw [show (St.mk b 0).rest = b from rfl, h]; rfl
  have h2 : (objP ⟨b, 0⟩).2 = ⟨b, 100⟩ := by
    rw [obj_tail, hm]
    exact good_tail.1 ⟨b, 100⟩ (by show (100 : Int) ≠ 0; decide)
  have hw : wrongP (objP ⟨b, 0⟩) = 100 := by
    unfold wrongP
    rw [h2, if_neg (by intro q; exact absurd (show (100 : Int) = 0 from q.1) (by decide))]
  unfold parseF parseR
  rw [hw, if_neg (by decide)]
theorem takeP_five (b : List UInt8) (h : 5 ≤ b.length) : takeP 5 ⟨b, 0⟩ = (b.take 5, ⟨b.drop 5, 0⟩) := by
  unfold takeP
  rw [if_pos rfl, if_neg (by show ¬ b.length < 5; omega)]
set_option maxHeartbeats 40000000 in
set_option maxRecDepth 100000 in
theorem rparse_any (a : Option Addr) (c : Nat) (b : List UInt8) (w : World) (hb : Rd w a b.length (u8v b)) (hc : b.length ≤ c) (hl : b.length ≤ 100000) :
    Calls Try.prog 9 #[.slice a b.length c] w fun e W' => ∃ o : Ob, e = .returned (.tuple #[.agg (objC o).toArray, .int .i64 (parseF b).2]) ∧ Below w.heap.size w W' ∧ RdOb W' o ∧ FitOb o ∧ coreO o = (parseF b).1 := by
  obtain ⟨mg, hmg⟩ : ∃ q, (b.take 5 == magicL) = q := ⟨_, rfl⟩
  obtain ⟨S, hS⟩ : ∃ S, w.heap.size = S := ⟨_, rfl⟩
  obtain ⟨s0, hs0⟩ : ∃ s0 : St, (⟨b.drop 5, 0⟩ : St) = s0 := ⟨_, rfl⟩
  have HC1 := Lib.hid (fun W (hW : RrAt S (S + 1) W b s0) => rtext_any S (S + 1) b s0 W hW)
  obtain ⟨⟨x1, s1⟩, hx1⟩ : ∃ x, textP s0 = x := ⟨_, rfl⟩
  rw [hx1] at HC1
  simp only [] at HC1
  have HN2 := Lib.hid (fun W (hW : RrAt S (S + 1) W b s1) => rnum_any S (S + 1) b s1 2 W hW (by decide) (by decide))
  have hn2 := numP_lt 2 s1
  obtain ⟨⟨n2, t2⟩, hy2⟩ : ∃ x, numP 2 s1 = x := ⟨_, rfl⟩
  rw [hy2] at HN2 hn2
  simp only [] at HN2
  have hn2 : n2 < 65536 := hn2
  obtain ⟨⟨x2, s2⟩, hx2⟩ : ∃ x, listP textP n2 t2 = x := ⟨_, rfl⟩
  have HN3 := Lib.hid (fun W (hW : RrAt S (S + 1) W b s2) => rnum_any S (S + 1) b s2 2 W hW (by decide) (by decide))
  have hn3 := numP_lt 2 s2
  obtain ⟨⟨n3, t3⟩, hy3⟩ : ∃ x, numP 2 s2 = x := ⟨_, rfl⟩
  rw [hy3] at HN3 hn3
  simp only [] at HN3
  have hn3 : n3 < 65536 := hn3
  obtain ⟨⟨x3, s3⟩, hx3⟩ : ∃ x, listP segP n3 t3 = x := ⟨_, rfl⟩
  have HN4 := Lib.hid (fun W (hW : RrAt S (S + 1) W b s3) => rnum_any S (S + 1) b s3 2 W hW (by decide) (by decide))
  have hn4 := numP_lt 2 s3
  obtain ⟨⟨n4, t4⟩, hy4⟩ : ∃ x, numP 2 s3 = x := ⟨_, rfl⟩
  rw [hy4] at HN4 hn4
  simp only [] at HN4
  have hn4 : n4 < 65536 := hn4
  obtain ⟨⟨x4, s4⟩, hx4⟩ : ∃ x, listP symP n4 t4 = x := ⟨_, rfl⟩
  have HN5 := Lib.hid (fun W (hW : RrAt S (S + 1) W b s4) => rnum_any S (S + 1) b s4 2 W hW (by decide) (by decide))
  have hn5 := numP_lt 2 s4
  obtain ⟨⟨n5, t5⟩, hy5⟩ : ∃ x, numP 2 s4 = x := ⟨_, rfl⟩
  rw [hy5] at HN5 hn5
  simp only [] at HN5
  have hn5 : n5 < 65536 := hn5
  obtain ⟨⟨x5, s5⟩, hx5⟩ : ∃ x, listP relP n5 t5 = x := ⟨_, rfl⟩
  have HC6 := Lib.hid (fun W (hW : RrAt S (S + 1) W b s5) => rlist_any S (S + 1) b s5 W hW)
  obtain ⟨⟨x6, s6⟩, hx6⟩ : ∃ x, listH halfP s5 = x := ⟨_, rfl⟩
  rw [hx6] at HC6
  simp only [] at HC6
  have HC7 := Lib.hid (fun W (hW : RrAt S (S + 1) W b s6) => rlist_any S (S + 1) b s6 W hW)
  obtain ⟨⟨x7, s7⟩, hx7⟩ : ∃ x, listH halfP s6 = x := ⟨_, rfl⟩
  rw [hx7] at HC7
  simp only [] at HC7
  have hob : mg = true → objP ⟨b, 0⟩ = (⟨x1, x2, x3, x4, x5, x6, x7⟩, s7) := fun h => by
    subst h
    have hm : magicP ⟨b, 0⟩ = ⟨b, 0⟩ := by unfold magicP; rw [show (St.mk b 0).rest = b from rfl, hmg]; rfl
    unfold objP
    simp only [hm, takeP_five b (take5_len hmg), hs0, hx1, listH, hy2, hy3, hy4, hy5, hx2, hx3, hx4, hx5]
    have h6 : listP halfP (numP 2 s5).1 (numP 2 s5).2 = (x6, s6) := hx6
    simp only [h6]
    have h7 : listP halfP (numP 2 s6).1 (numP 2 s6).2 = (x7, s7) := hx7
    simp only [h7]
  have HFIT := Lib.hid (fun (h : mg = true) (o : Ob) (ho : coreO o = ⟨x1, x2, x3, x4, x5, x6, x7⟩) => fit_of (o := o) (s := ⟨b, 0⟩) (by rw [hob h]; exact ho))
  obtain ⟨⟨pc, pe⟩, hpf⟩ : ∃ x, parseF b = x := ⟨_, rfl⟩
  have HP0 : Hid (mg = false → (emptyC, (100 : Int)) = (pc, pe)) := Lib.hid (fun h => by subst h; rw [← hpf]; exact (parse_magic hmg).symm)
  have HP1 : Hid (mg = true → parseR (⟨x1, x2, x3, x4, x5, x6, x7⟩, s7) = (pc, pe)) := Lib.hid (fun h => by rw [← hpf, ← hob h]; rfl)
  have HL2 := Lib.hid hx2
  have HL3 := Lib.hid hx3
  have HL4 := Lib.hid hx4
  have HL5 := Lib.hid hx5
  have r0 : s0.rest.length ≤ 100000 := by rw [← hs0]; show (b.drop 5).length ≤ 100000; rw [List.length_drop]; omega
  have r2 : t3.rest.length ≤ 100000 := by
    have h1 : s1.rest.length ≤ s0.rest.length := by have := textP_rest s0; rwa [hx1] at this
    have h2 : t2.rest.length ≤ s1.rest.length := by have := takeP_rest 2 s1; rwa [show (takeP 2 s1).2 = t2 from congrArg Prod.snd hy2] at this
    have h3 : s2.rest.length ≤ t2.rest.length := by have := listP_rest textP_rest n2 t2; rwa [hx2] at this
    have h4 : t3.rest.length ≤ s2.rest.length := by have := takeP_rest 2 s2; rwa [show (takeP 2 s2).2 = t3 from congrArg Prod.snd hy3] at this
    omega
  rw [hpf]
  simp only []
  have HMG := Lib.hid hmg
  have HS0 := Lib.hid hs0
  have HBY : Hid (BytesIn S w a b) := Lib.hid ⟨hb, fun h0 => by
    obtain ⟨g, off, e, h1, -⟩ := hb.2 h0
    exact ⟨g, off, e, by omega⟩⟩
  obtain ⟨m, hm⟩ : ∃ m, b.length = m := ⟨_, rfl⟩
  have HM := Lib.hid hm
  obtain ⟨W1, hW1⟩ : ∃ W1, w.alloc (.cells #[.string ⟨#[]⟩, .slice none 0 0, .slice none 0 0, .slice none 0 0, .slice none 0 0, .slice none 0 0, .slice none 0 0] 30) = W1 := ⟨_, rfl⟩
  have HZ : Hid (BoxN W1 S #[.string ⟨#[]⟩, .slice none 0 0, .slice none 0 0, .slice none 0 0, .slice none 0 0, .slice none 0 0, .slice none 0 0]) := Lib.hid (by rw [← hW1, ← hS]; exact BoxN.new w _ _)
  have HB : Hid (Below w.heap.size w W1) := Lib.hid (by rw [← hW1]; exact bAlloc (Below.refl _ _) _)
  have hz1 : W1.heap.size = S + 1 := by rw [← hW1, size_alloc, hS]
  have HZ1 := Lib.hid hz1
  have HW1 := Lib.hid hW1
  have HSE := Lib.hid hS
  have hSl : w.heap.size ≤ S := by omega
  rw [hm] at hc hl ⊢
  clear hb hm hmg hob hpf hx1 hx2 hx3 hx4 hx5 hx6 hx7 hy2 hy3 hy4 hy5 hs0 hW1 hS hz1
  go_enter Try.func9, Try.ntmps9
  go_upto_region 1 with fail
  rw [HW1.out, HSE.out]
  go_cut [47] from 15 (fun s47 wd => s47 = .bool (!mg) ∧ wd = W1)
  case first =>
    as_aux_lemma =>
      by_cases h5 : m < 5
      · have h5i : (m : Int) < 5 := by omega
        have hmf : false = mg := by
          cases mg with
          | false => rfl
          | true => have := take5_len HMG.out; rw [HM.out] at this; omega
        go_wp2_with fail
        go_meet
        case rel => exact ⟨by rw [← hmf]; rfl, rfl⟩
      · have h5i : ¬ (m : Int) < 5 := by omega
        obtain ⟨c0, c1, c2, c3, c4, t, hbt⟩ := five b (by rw [HM.out]; omega)
        have hby := HBY.out.1.below HB.out
        rw [HM.out] at hby
        obtain ⟨g, off, hge, -, hcc⟩ := hby.2 (by omega)
        subst hge
        have d0 := hcc 0 (by omega)
        have d1 := hcc 1 (by omega)
        have d2 := hcc 2 (by omega)
        have d3 := hcc 3 (by omega)
        have d4 := hcc 4 (by omega)
        have hmg2 := HMG.out
        rw [hbt, magic_of] at hmg2
        rw [hbt] at d0 d1 d2 d3 d4
        replace d0 : W1.cell? ⟨g, off, none⟩ = some (.int .u8 (c0.toNat : Int)) := d0
        replace d1 : W1.cell? ⟨g, off + 1, none⟩ = some (.int .u8 (c1.toNat : Int)) := d1
        replace d2 : W1.cell? ⟨g, off + 2, none⟩ = some (.int .u8 (c2.toNat : Int)) := d2
        replace d3 : W1.cell? ⟨g, off + 3, none⟩ = some (.int .u8 (c3.toNat : Int)) := d3
        replace d4 : W1.cell? ⟨g, off + 4, none⟩ = some (.int .u8 (c4.toNat : Int)) := d4
        obtain ⟨y0, hy0⟩ : ∃ y, c0.toNat = y := ⟨_, rfl⟩
        obtain ⟨y1, hy1⟩ : ∃ y, c1.toNat = y := ⟨_, rfl⟩
        obtain ⟨y2, hy2⟩ : ∃ y, c2.toNat = y := ⟨_, rfl⟩
        obtain ⟨y3, hy3⟩ : ∃ y, c3.toNat = y := ⟨_, rfl⟩
        obtain ⟨y4, hy4⟩ : ∃ y, c4.toNat = y := ⟨_, rfl⟩
        rw [hy0] at d0
        rw [hy1] at d1
        rw [hy2] at d2
        rw [hy3] at d3
        rw [hy4] at d4
        rw [hy0, hy1, hy2, hy3, hy4] at hmg2
        have HMG2 := Lib.hid hmg2
        have i0 : (0 : Int) < (m : Int) := by omega
        have i1 : (1 : Int) < (m : Int) := by omega
        have i2 : (2 : Int) < (m : Int) := by omega
        have i3 : (3 : Int) < (m : Int) := by omega
        have i4 : (4 : Int) < (m : Int) := by omega
        clear hbt hcc hby hy0 hy1 hy2 hy3 hy4 hmg2
        by_cases q0 : y0 = 67
        · subst q0
          by_cases q1 : y1 = 69
          · subst q1
            by_cases q2 : y2 = 76
            · subst q2
              by_cases q3 : y3 = 70
              · subst q3
                by_cases q4 : y4 = 1
                · subst q4
                  go_wp2_with fail
                  go_meet
                  case rel =>
                    refine ⟨congrArg Value.bool ?_, rfl⟩
                    rw [← HMG2.out]
                    simp
                · have e4 : ((y4 : Int) == 1) = false := by simp; omega
                  have e4' : ¬ (y4 : Int) = 1 := by omega
                  go_wp2_with fail
                  go_meet
                  case rel =>
                    refine ⟨congrArg Value.bool ?_, rfl⟩
                    rw [← HMG2.out]
                    simp [q4]
                    try omega
              · have e3 : ((y3 : Int) == 70) = false := by simp; omega
                have e3' : ¬ (y3 : Int) = 70 := by omega
                go_wp2_with fail
                go_meet
                case rel =>
                  refine ⟨congrArg Value.bool ?_, rfl⟩
                  rw [← HMG2.out]
                  simp [q3]
                  try omega
            · have e2 : ((y2 : Int) == 76) = false := by simp; omega
              have e2' : ¬ (y2 : Int) = 76 := by omega
              go_wp2_with fail
              go_meet
              case rel =>
                refine ⟨congrArg Value.bool ?_, rfl⟩
                rw [← HMG2.out]
                simp [q2]
                try omega
          · have e1 : ((y1 : Int) == 69) = false := by simp; omega
            have e1' : ¬ (y1 : Int) = 69 := by omega
            go_wp2_with fail
            go_meet
            case rel =>
              refine ⟨congrArg Value.bool ?_, rfl⟩
              rw [← HMG2.out]
              simp [q1]
              try omega
        · have e0 : ((y0 : Int) == 67) = false := by simp; omega
          have e0' : ¬ (y0 : Int) = 67 := by omega
          go_wp2_with fail
          go_meet
          case rel =>
            refine ⟨congrArg Value.bool ?_, rfl⟩
            rw [← HMG2.out]
            simp [q0]
            try omega
  case rest =>
    obtain ⟨rfl, rfl⟩ := hcut
    have hzl : S < wc.heap.size := HZ.out.lt
    cases mg with
    | false =>
      have hp := HP0.out rfl
      simp only [Prod.mk.injEq] at hp
      obtain ⟨hp1, hp2⟩ := hp
      subst hp1
      subst hp2
      have c0 : wc.cell? ⟨S, 0, none⟩ = some (.string ⟨#[]⟩) := HZ.out.cell 0
      have z0 : wc.frozen? ⟨S, 0, none⟩ = false := HZ.out.frozen 0
      have c1 : wc.cell? ⟨S, 1, none⟩ = some (.slice none 0 0) := HZ.out.cell 1
      have z1 : wc.frozen? ⟨S, 1, none⟩ = false := HZ.out.frozen 1
      have c2 : wc.cell? ⟨S, 2, none⟩ = some (.slice none 0 0) := HZ.out.cell 2
      have z2 : wc.frozen? ⟨S, 2, none⟩ = false := HZ.out.frozen 2
      have c3 : wc.cell? ⟨S, 3, none⟩ = some (.slice none 0 0) := HZ.out.cell 3
      have z3 : wc.frozen? ⟨S, 3, none⟩ = false := HZ.out.frozen 3
      have c4 : wc.cell? ⟨S, 4, none⟩ = some (.slice none 0 0) := HZ.out.cell 4
      have z4 : wc.frozen? ⟨S, 4, none⟩ = false := HZ.out.frozen 4
      have c5 : wc.cell? ⟨S, 5, none⟩ = some (.slice none 0 0) := HZ.out.cell 5
      have z5 : wc.frozen? ⟨S, 5, none⟩ = false := HZ.out.frozen 5
      have c6 : wc.cell? ⟨S, 6, none⟩ = some (.slice none 0 0) := HZ.out.cell 6
      have z6 : wc.frozen? ⟨S, 6, none⟩ = false := HZ.out.frozen 6
      go_wp2_with fail
      have hbx : BoxN (((((((wc.setCell ⟨S, 0, none⟩ (.string ⟨#[]⟩)).setCell ⟨S, 1, none⟩ (.slice none 0 0)).setCell ⟨S, 2, none⟩ (.slice none 0 0)).setCell ⟨S, 3, none⟩ (.slice none 0 0)).setCell ⟨S, 4, none⟩ (.slice none 0 0)).setCell ⟨S, 5, none⟩ (.slice none 0 0)).setCell ⟨S, 6, none⟩ (.slice none 0 0)) S #[.string ⟨#[]⟩, .slice none 0 0, .slice none 0 0, .slice none 0 0, .slice none 0 0, .slice none 0 0, .slice none 0 0] := (((((((HZ.out.set 0 (.string ⟨#[]⟩)).set 1 (.slice none 0 0)).set 2 (.slice none 0 0)).set 3 (.slice none 0 0)).set 4 (.slice none 0 0)).set 5 (.slice none 0 0)).set 6 (.slice none 0 0))
      have HBF := Lib.hid (show Below w.heap.size w (((((((wc.setCell ⟨S, 0, none⟩ (.string ⟨#[]⟩)).setCell ⟨S, 1, none⟩ (.slice none 0 0)).setCell ⟨S, 2, none⟩ (.slice none 0 0)).setCell ⟨S, 3, none⟩ (.slice none 0 0)).setCell ⟨S, 4, none⟩ (.slice none 0 0)).setCell ⟨S, 5, none⟩ (.slice none 0 0)).setCell ⟨S, 6, none⟩ (.slice none 0 0)) from (below_set (below_set (below_set (below_set (below_set (below_set (below_set HB.out hSl (.string ⟨#[]⟩)) hSl (.slice none 0 0)) hSl (.slice none 0 0)) hSl (.slice none 0 0)) hSl (.slice none 0 0)) hSl (.slice none 0 0)) hSl (.slice none 0 0)))
      obtain ⟨WF, hWF⟩ : ∃ W', (((((((wc.setCell ⟨S, 0, none⟩ (.string ⟨#[]⟩)).setCell ⟨S, 1, none⟩ (.slice none 0 0)).setCell ⟨S, 2, none⟩ (.slice none 0 0)).setCell ⟨S, 3, none⟩ (.slice none 0 0)).setCell ⟨S, 4, none⟩ (.slice none 0 0)).setCell ⟨S, 5, none⟩ (.slice none 0 0)).setCell ⟨S, 6, none⟩ (.slice none 0 0)) = W' := ⟨_, rfl⟩
      rw [hWF] at hbx HBF ⊢
      clear hWF
      have q0 : WF.cell? ⟨S, 0, none⟩ = some (.string ⟨#[]⟩) := hbx.cell 0
      have q1 : WF.cell? ⟨S, 1, none⟩ = some (.slice none 0 0) := hbx.cell 1
      have q2 : WF.cell? ⟨S, 2, none⟩ = some (.slice none 0 0) := hbx.cell 2
      have q3 : WF.cell? ⟨S, 3, none⟩ = some (.slice none 0 0) := hbx.cell 3
      have q4 : WF.cell? ⟨S, 4, none⟩ = some (.slice none 0 0) := hbx.cell 4
      have q5 : WF.cell? ⟨S, 5, none⟩ = some (.slice none 0 0) := hbx.cell 5
      have q6 : WF.cell? ⟨S, 6, none⟩ = some (.slice none 0 0) := hbx.cell 6
      refine bodyPost_ret (v := .tuple #[.agg #[.string ⟨#[]⟩, .slice none 0 0, .slice none 0 0, .slice none 0 0, .slice none 0 0, .slice none 0 0, .slice none 0 0], .int .i64 100]) ?_ rfl ⟨emptyO, rfl, HBF.out, empty_rd _, empty_fit, rfl⟩
      simp [results, Try.results9, go_sem, q0, q1, q2, q3, q4, q5, q6]
    | true =>
      clear HP0
      have h5 : 5 ≤ m := by have := take5_len HMG.out; rwa [HM.out] at this
      obtain ⟨V0, hV0⟩ : ∃ V, (wc.alloc (.cells #[.slice a m c, .int .i64 5, .int .i64 0] 53)).alloc (.cells #[.string ⟨#[]⟩, .slice none 0 0, .slice none 0 0, .slice none 0 0, .slice none 0 0, .slice none 0 0, .slice none 0 0] 30) = V := ⟨_, rfl⟩
      have hbr : BoxN V0 (S + 1) #[.slice a m c, .int .i64 5, .int .i64 0] := by rw [← hV0, ← HZ1.out]; exact boxN_alloc (BoxN.new wc _ _) _
      have HX : Hid (BoxN V0 (S + 2) #[.string ⟨#[]⟩, .slice none 0 0, .slice none 0 0, .slice none 0 0, .slice none 0 0, .slice none 0 0, .slice none 0 0]) := Lib.hid (by
        have h := BoxN.new (wc.alloc (.cells #[.slice a m c, .int .i64 5, .int .i64 0] 53)) #[.string ⟨#[]⟩, .slice none 0 0, .slice none 0 0, .slice none 0 0, .slice none 0 0, .slice none 0 0, .slice none 0 0] 30
        rw [size_alloc, HZ1.out, hV0] at h
        exact h)
      have HB0 : Hid (Below wc.heap.size wc V0) := Lib.hid (by rw [← hV0]; exact bAlloc (bAlloc (Below.refl _ _) _) _)
      have HZ := Lib.hid (boxN_below HZ.out HB0.out)
      have HB := Lib.hid (bTrans HB.out HB0.out)
      have HR : Hid (RrAt S (S + 1) V0 b s0) := Lib.hid ⟨by omega, by rw [HM.out]; exact hl, 5, by rw [HM.out]; exact h5, by rw [← HS0.out], a, c, by rw [HM.out, ← HS0.out]; exact hbr, by rw [HM.out]; exact hc, HBY.out.1.below HB.out, HBY.out.2⟩
      have HV0 := Lib.hid hV0
      clear hV0 hbr hzl HS0
      go_upto_region 5 with fail
      rw [HZ1.out, HV0.out]
      clear HV0
      go_wp2_with fail
      refine (HC1.out _ HR.out).mono ?_; rintro e V1 ⟨rfl, hrd, hkp⟩
      have HX := Lib.hid (step_box HX.out hkp (by omega))
      have HZ := Lib.hid (step_box HZ.out hkp (by omega))
      have HB := Lib.hid (below_kp HB.out hkp (fun q hq e => by omega))
      have HR := Lib.hid hrd
      clear hrd hkp
      have tc : V1.cell? ⟨S + 2, 0, none⟩ = some (.string ⟨#[]⟩) := HX.out.cell 0
      have tz : V1.frozen? ⟨S + 2, 0, none⟩ = false := HX.out.frozen 0
      go_upto_region 6 with fail
      have HR := Lib.hid (rr_setB (B := S + 2) (j := 0) HR.out (by omega) (.string ⟨x1.toArray⟩))
      have HB := Lib.hid (below_set (B := S + 2) (j := 0) HB.out (by omega) (.string ⟨x1.toArray⟩))
      have HZ := Lib.hid (step_box HZ.out (KP.set1 V1 (S + 2) 0 (.string ⟨x1.toArray⟩)) (by omega))
      have HX := Lib.hid (show BoxN _ _ #[.string ⟨x1.toArray⟩, .slice none 0 0, .slice none 0 0, .slice none 0 0, .slice none 0 0, .slice none 0 0, .slice none 0 0] from HX.out.set 0 (.string ⟨x1.toArray⟩))
      obtain ⟨V2, hV2⟩ : ∃ W', V1.setCell ⟨S + 2, 0, none⟩ (.string ⟨x1.toArray⟩) = W' := ⟨_, rfl⟩
      rw [hV2] at HR HB HZ HX ⊢
      clear hV2 tc tz
      go_wp2_with fail
      refine (HN2.out _ HR.out).mono ?_; rintro e VN ⟨rfl, hrd, hkp⟩
      have HX := Lib.hid (step_box HX.out hkp (by omega))
      have HZ := Lib.hid (step_box HZ.out hkp (by omega))
      have HB := Lib.hid (below_kp HB.out hkp (fun q hq e => by omega))
      have HR := Lib.hid hrd
      clear hrd hkp
      have hVS : S + 2 < VN.heap.size := HX.out.lt
      go_upto_block 0 with fail
      go_cut [7] from 15 (fun s7 wd => ∃ na nc, Hid (Below w.heap.size w wd) ∧ Hid (RrAt S (S + 1) wd b s2) ∧ Hid (BoxN wd (S + 2) #[.string ⟨x1.toArray⟩, .slice na x2.length nc, .slice none 0 0, .slice none 0 0, .slice none 0 0, .slice none 0 0, .slice none 0 0]) ∧ Hid (BoxN wd S #[.string ⟨#[]⟩, .slice none 0 0, .slice none 0 0, .slice none 0 0, .slice none 0 0, .slice none 0 0, .slice none 0 0]) ∧ Hid (RdIn (S + 3) wd na (x2.length * 1) (txs x2)))
      case first =>
        as_aux_lemma =>
          go_wp2_with fail
          go_loopw [7] (fun iv wr => ∃ (k r : Nat) (sj : St) (v : Value) (xs : List (List UInt8)), iv = .int .i64 (k : Int) ∧ k + r = n2 ∧ Hid (xs.length = k) ∧ Hid (BoxN wr (S + 2) #[.string ⟨x1.toArray⟩, v, .slice none 0 0, .slice none 0 0, .slice none 0 0, .slice none 0 0, .slice none 0 0]) ∧ Hid (wr.ownsRow VN.heap.size 9 1 v xs.length (txs xs)) ∧ Hid (RrAt S (S + 1) wr b sj) ∧ Hid (KP VN.heap.size (fun q => q = S + 1 ∨ q = S + 2) VN wr) ∧ Hid ((xs ++ (listP textP r sj).1, (listP textP r sj).2) = (x2, s2))) (fun iv _ => n2 - (intOf iv).toNat)
          case atStart => exact ⟨0, n2, t2, _, [], rfl, by omega, Lib.hid rfl, HX, Lib.hid (World.ownsRow_nil _ _ _ _), HR, Lib.hid (KP.refl _ _ _), Lib.hid HL2.out⟩
          case round =>
            obtain ⟨k, r, sj, v, xs, rfl, hj, HXK, HX2, HO, HR2, HK, HE⟩ := hrel
            clear HX HR
            have HX := HX2
            have HR := HR2
            clear HX2 HR2
            have hnw := HK.out.size
            have hkn : k ≤ n2 := by omega
            have HLN : Hid (xs.length < 65536) := Lib.hid (by rw [HXK.out]; omega)
            obtain ⟨k0, hk0, hk1, ra_, rc_, hbx, -, -⟩ := HR.out.box
            have c2 : wr.cell? ⟨S + 1, 2, none⟩ = some (.int .i64 sj.wrong) := hbx.cell 2
            obtain ⟨wr1, hwr1⟩ : ∃ x, sj.wrong = x := ⟨_, rfl⟩
            rw [hwr1] at c2
            have HWR := Lib.hid hwr1
            clear hbx hwr1 hk1 hk0
            by_cases hgo : 0 < r ∧ wr1 = 0
            · obtain ⟨hj0, hw0⟩ := hgo
              obtain ⟨i, rfl⟩ : ∃ i, r = i + 1 := ⟨r - 1, by omega⟩
              subst hw0
              have ej0 : (k : Int) < (n2 : Int) := by omega
              have HJ := Lib.hid hj
              have HC := Lib.hid (fun W (hW : RrAt S (S + 1) W b sj) => rtext_any S (S + 1) b sj W hW)
              obtain ⟨⟨y1, s1'⟩, hx⟩ : ∃ x, textP sj = x := ⟨_, rfl⟩
              have he := HE.out
              rw [listP_step HWR.out hx] at he
              rw [hx] at HC
              simp only [] at HC he
              have HE2 := Lib.hid he
              clear he hx hj
              have cv : wr.cell? ⟨S + 2, 1, none⟩ = some v := HX.out.cell 1
              have zv : wr.frozen? ⟨S + 2, 1, none⟩ = false := HX.out.frozen 1
              go_upto_region 10 with fail
              go_region_law (first
                | (go_simp; go_at_call 15; refine (HC.out _ HR.out.drew).mono ?_; rintro e W5 ⟨rfl, hrd, hkp⟩; have HR5 := Lib.hid hrd; have HW5 : Hid (KP wr.heap.size (· = S + 1) wr W5) := Lib.hid (((KP.refl wr.heap.size (· = S + 1) wr).drew).trans hkp); have HX5 := Lib.hid (step_box HX.out HW5.out (by omega)); have HO5 := Lib.hid (own_kp HO.out HW5.out (by omega)); have cv5 : W5.cell? ⟨S + 2, 1, none⟩ = some v := HX5.out.cell 1; have zv5 : W5.frozen? ⟨S + 2, 1, none⟩ = false := HX5.out.frozen 1; have hs5 := HX5.out.lt; clear hrd hkp; dsimp only)
                | (refine step_appE 24 9 (.string ⟨#[]⟩) 1 16 Try.underlying24 infoStr rfl (by decide) (by decide) _ rfl _ _ rfl VN.heap.size v xs.length (txs xs) rfl (HO5.out.alloc _) (some ⟨W5.heap.size, 0, none⟩) 1 1 [.string ⟨y1.toArray⟩] rfl (Rd.lit W5 #[.string ⟨y1.toArray⟩] 9 (by show 1 ≤ maxLen; decide)) (fun u hu => by simp at hu; subst hu; rfl) (by have := HLN.out; omega) (by rw [size_alloc]; have := HW5.out.size; omega) ?_; intro a7 c7 W7 hown7 hgrow7 hat7; have HOn := Lib.hid (show W7.ownsRow VN.heap.size 9 1 (.slice a7 (xs.length + 1) c7) (xs ++ [y1]).length (txs (xs ++ [y1])) by rw [txs_snoc, List.length_append]; exact hown7); have HKA : Hid (KP wr.heap.size (· = S + 1) wr (W5.alloc (.cells #[.string ⟨y1.toArray⟩] 9))) := Lib.hid (HW5.out.alloc _ HW5.out.size); have hAs : VN.heap.size ≤ (W5.alloc (.cells #[.string ⟨y1.toArray⟩] 9)).heap.size := Nat.le_trans hnw HKA.out.size; have HR7 : Hid (RrAt S (S + 1) W7 b s1') := Lib.hid ((HR5.out.below (bAlloc (Below.refl _ _) (.cells #[.string ⟨y1.toArray⟩] 9))).kp ((KP.refl (S + 2) (fun _ => False) (W5.alloc (.cells #[.string ⟨y1.toArray⟩] 9))).grown hgrow7 (by omega) (fun r e => Or.inl (by have := (HO5.out.lt r e).1; omega))) (Nat.lt_succ_self (S + 1)) (fun _ _ => id)); have HK7 : Hid (KP VN.heap.size (fun q => q = S + 1 ∨ q = S + 2) VN W7) := Lib.hid ((HK.out.trans (HKA.out.mono hnw (fun _ _ q => Or.inl q))).grown hgrow7 hAs (fun r e => Or.inl (HO5.out.lt r e).1)); have HX7 : Hid (BoxN W7 (S + 2) #[.string ⟨x1.toArray⟩, v, .slice none 0 0, .slice none 0 0, .slice none 0 0, .slice none 0 0, .slice none 0 0]) := Lib.hid ((boxN_alloc HX5.out (.cells #[.string ⟨y1.toArray⟩] 9)).kp ((KP.refl VN.heap.size (fun _ => False) (W5.alloc (.cells #[.string ⟨y1.toArray⟩] 9))).grown hgrow7 hAs (fun r e => Or.inl (HO5.out.lt r e).1)) hVS id); clear hown7 hgrow7 hat7; have cv7 : W7.cell? ⟨S + 2, 1, none⟩ = some v := HX7.out.cell 1; have zv7 : W7.frozen? ⟨S + 2, 1, none⟩ = false := HX7.out.frozen 1))
              all_goals
                clear cv zv cv5 zv5 cv7 zv7
                have HR8 := Lib.hid (rr_setB (B := S + 2) (j := 1) HR7.out (by omega) (.slice a7 (xs.length + 1) c7))
                have HK8 := Lib.hid (HK7.out.set ⟨S + 2, 1, none⟩ (Or.inr (Or.inr rfl)) (.slice a7 (xs.length + 1) c7))
                have HX8 := Lib.hid (show BoxN _ _ #[.string ⟨x1.toArray⟩, .slice a7 (xs.length + 1) c7, .slice none 0 0, .slice none 0 0, .slice none 0 0, .slice none 0 0, .slice none 0 0] from HX7.out.set 1 (.slice a7 (xs.length + 1) c7))
                have HO8 := Lib.hid (own_kpS HOn.out (KP.set1 W7 (S + 2) 1 (.slice a7 (xs.length + 1) c7)) (fun q hq e => by omega))
                obtain ⟨W8, hW8⟩ : ∃ W', W7.setCell ⟨S + 2, 1, none⟩ (.slice a7 (xs.length + 1) c7) = W' := ⟨_, rfl⟩
                rw [hW8] at HR8 HK8 HX8 HO8 ⊢
                clear hW8
                go_wp2_with fail
                go_roundw
                case rel => exact ⟨k + 1, i, s1', _, xs ++ [y1], by go_num, by have := HJ.out; omega, Lib.hid (by rw [List.length_append, HXK.out]; rfl), HX8, HO8, HR8, HK8, Lib.hid (by rw [← HE2.out]; simp)⟩
                case measure => simp [intOf] <;> omega
            · have he := HE.out
              have hend : listP textP r sj = ([], sj) := by
                rcases Nat.eq_zero_or_pos r with h0 | h0
                · subst h0; rfl
                · exact listP_wrong _ _ _ (fun q => hgo ⟨h0, HWR.out.symm.trans q⟩)
              rw [hend, List.append_nil] at he
              simp only [Prod.mk.injEq] at he
              obtain ⟨he1, he2⟩ := he
              subst he1
              subst he2
              obtain ⟨a', c', rfl, -⟩ := own_slice HO.out
              clear hend
              have HB := Lib.hid (below_kp HB.out HK.out (fun q hq e => by omega))
              have HZ := Lib.hid (HZ.out.kp HK.out (by omega) (by omega))
              have P2 := Lib.hid (rdIn_of_own (B' := S + 3) HO.out (by omega))
              by_cases hj0 : 0 < r
              · have hw0 : ¬ wr1 = 0 := fun q => hgo ⟨hj0, q⟩
                have ej0 : (k : Int) < (n2 : Int) := by omega
                clear hj
                go_wp2_with fail
                go_meet
                case rel => exact ⟨a', c', HB, HR, HX, HZ, P2⟩
              · have ej0 : ¬ (k : Int) < (n2 : Int) := by omega
                clear hj
                go_wp2_with fail
                go_meet
                case rel => exact ⟨a', c', HB, HR, HX, HZ, P2⟩
      case rest =>
        clear HB HR HX HZ  hVS
        obtain ⟨na, nc, HB, HR, HX, HZ, P2⟩ := hcut
        go_wp2_with fail
        refine (HN3.out _ HR.out).mono ?_; rintro e VN ⟨rfl, hrd, hkp⟩
        have HX := Lib.hid (step_box HX.out hkp (by omega))
        have HZ := Lib.hid (step_box HZ.out hkp (by omega))
        have HB := Lib.hid (below_kp HB.out hkp (fun q hq e => by omega))
        have HR := Lib.hid hrd
        have P2 := Lib.hid (P2.out.kp hkp (Nat.le_refl _) (fun q hq e => by omega))
        clear hrd hkp
        have hVS : S + 2 < VN.heap.size := HX.out.lt
        go_upto_block 2 with fail
        go_cut [8, 9, 10] from 15 (fun s8 s9 s10 wd => ∃ ga gc gs, Hid (Below w.heap.size w wd) ∧ Hid (RrAt S (S + 1) wd b s3) ∧ Hid (BoxN wd (S + 2) #[.string ⟨x1.toArray⟩, .slice na x2.length nc, .slice ga gs.length gc, .slice none 0 0, .slice none 0 0, .slice none 0 0, .slice none 0 0]) ∧ Hid (BoxN wd S #[.string ⟨#[]⟩, .slice none 0 0, .slice none 0 0, .slice none 0 0, .slice none 0 0, .slice none 0 0, .slice none 0 0]) ∧ Hid (RdIn (S + 3) wd na (x2.length * 1) (txs x2)) ∧ Hid (gs.map coreG = x3) ∧ Hid (RdIn (S + 3) wd ga (gs.length * 4) (segsC gs)) ∧ Hid (∀ g ∈ gs, NewB (fun q => S + 3 ≤ q) wd g.ba g.bytes))
        case first =>
          as_aux_lemma =>
            go_wp2_with fail
            go_loopw [8, 9, 10] (fun iv _ _ wr => ∃ (k r : Nat) (sj : St) (v : Value) (xs : List (Seg)), iv = .int .i64 (k : Int) ∧ k + r = n3 ∧ sj.rest.length ≤ 100000 ∧ Hid (xs.length = k) ∧ Hid (BoxN wr (S + 2) #[.string ⟨x1.toArray⟩, .slice na x2.length nc, v, .slice none 0 0, .slice none 0 0, .slice none 0 0, .slice none 0 0]) ∧ Hid (wr.ownsRow VN.heap.size 39 4 v xs.length (segsC xs)) ∧ Hid (RrAt S (S + 1) wr b sj) ∧ Hid (KP VN.heap.size (fun q => q = S + 1 ∨ q = S + 2) VN wr) ∧ Hid (∀ g ∈ xs, NewB (fun q => VN.heap.size ≤ q ∧ v.ownBlock ≠ some q) wr g.ba g.bytes) ∧ Hid ((xs.map coreG ++ (listP segP r sj).1, (listP segP r sj).2) = (x3, s3))) (fun iv _ _ _ => n3 - (intOf iv).toNat)
            case atStart => exact ⟨0, n3, t3, _, [], rfl, by omega, r2, Lib.hid rfl, HX, Lib.hid (World.ownsRow_nil _ _ _ _), HR, Lib.hid (KP.refl _ _ _), Lib.hid (fun g hg => by simp at hg), Lib.hid HL3.out⟩
            case round =>
              obtain ⟨k, r, sj, v, xs, rfl, hj, hsj, HXK, HX2, HO, HR2, HK, HNB, HE⟩ := hrel
              clear HX HR
              have HX := HX2
              have HR := HR2
              clear HX2 HR2
              have hnw := HK.out.size
              have hkn : k ≤ n3 := by omega
              have HLN : Hid (xs.length < 65536) := Lib.hid (by rw [HXK.out]; omega)
              obtain ⟨k0, hk0, hk1, ra_, rc_, hbx, -, -⟩ := HR.out.box
              have c2 : wr.cell? ⟨S + 1, 2, none⟩ = some (.int .i64 sj.wrong) := hbx.cell 2
              obtain ⟨wr1, hwr1⟩ : ∃ x, sj.wrong = x := ⟨_, rfl⟩
              rw [hwr1] at c2
              have HWR := Lib.hid hwr1
              clear hbx hwr1 hk1 hk0
              by_cases hgo : 0 < r ∧ wr1 = 0
              · obtain ⟨hj0, hw0⟩ := hgo
                obtain ⟨i, rfl⟩ : ∃ i, r = i + 1 := ⟨r - 1, by omega⟩
                subst hw0
                have ej0 : (k : Int) < (n3 : Int) := by omega
                have HJ := Lib.hid hj
                have HC1' := Lib.hid (fun W (hW : RrAt S (S + 1) W b sj) => rnum_any S (S + 1) b sj 4 W hW (by decide) (by decide))
                have hpl1 := numP_lt 4 sj
                obtain ⟨⟨y1, v1_⟩, hx1⟩ : ∃ x, numP 4 sj = x := ⟨_, rfl⟩
                rw [hx1] at HC1' hpl1
                simp only [] at HC1'
                have hpl1 : y1 < 4294967296 := hpl1
                have HC2' := Lib.hid (fun W (hW : RrAt S (S + 1) W b v1_) => rnum_any S (S + 1) b v1_ 4 W hW (by decide) (by decide))
                have hpl2 := numP_lt 4 v1_
                obtain ⟨⟨y2, v2_⟩, hx2⟩ : ∃ x, numP 4 v1_ = x := ⟨_, rfl⟩
                rw [hx2] at HC2' hpl2
                simp only [] at HC2'
                have hpl2 : y2 < 4294967296 := hpl2
                have HC3' := Lib.hid (fun W (hW : RrAt S (S + 1) W b v2_) => rnum_any S (S + 1) b v2_ 1 W hW (by decide) (by decide))
                have hpl3 := numP_lt 1 v2_
                obtain ⟨⟨y3, v3_⟩, hx3⟩ : ∃ x, numP 1 v2_ = x := ⟨_, rfl⟩
                rw [hx3] at HC3' hpl3
                simp only [] at HC3'
                have hpl3 : y3 < 256 := hpl3
                have HC4' := Lib.hid (fun W (hW : RrAt S (S + 1) W b v3_) => rnum_any S (S + 1) b v3_ 4 W hW (by decide) (by decide))
                have hpl4 := numP_lt 4 v3_
                obtain ⟨⟨y4, v4_⟩, hx4⟩ : ∃ x, numP 4 v3_ = x := ⟨_, rfl⟩
                rw [hx4] at HC4' hpl4
                simp only [] at HC4'
                have hpl4 : y4 < 4294967296 := hpl4
                have w1 : IntKind.u64.wrap (y1 : Int) = (y1 : Int) := by rw [IntKind.wrap_u64]; omega
                have w2 : IntKind.u64.wrap (y2 : Int) = (y2 : Int) := by rw [IntKind.wrap_u64]; omega
                have HC5' := Lib.hid (fun W (hW : RrAt S (S + 1) W b v4_) => rmany_any S (S + 1) b v4_ y4 W hW hpl4)
                obtain ⟨⟨y5, s1'⟩, hx5⟩ : ∃ x, takeP y4 v4_ = x := ⟨_, rfl⟩
                rw [hx5] at HC5'
                simp only [] at HC5'
                have hx : segP sj = (((y1 : Int), (y2 : Int), (y3 : Int), y5), s1') := by unfold segP; simp only [hx1, hx2, hx3, hx4, hx5]
                have hs1 : s1'.rest.length ≤ 100000 := by have h1 := segP_rest sj; rw [hx] at h1; exact Nat.le_trans h1 hsj
                have he := HE.out
                rw [listP_step HWR.out hx] at he
                simp only [] at he
                have HE2 := Lib.hid he
                obtain ⟨m5, hm5⟩ : ∃ m, y5.length = m := ⟨_, rfl⟩
                have HM5 := Lib.hid hm5
                rw [hm5] at HC5'
                obtain ⟨B9, hB9⟩ : ∃ B9, wr.heap.size = B9 := ⟨_, rfl⟩
                obtain ⟨U0, hU0⟩ : ∃ U0, wr.alloc (.cells #[.int .u64 0, .int .u64 0, .int .i64 0, .slice none 0 0] 39) = U0 := ⟨_, rfl⟩
                have HW5 : Hid (KP wr.heap.size (· = S + 1) wr U0) := Lib.hid (by rw [← hU0]; exact kp_alloc wr _ _)
                have HX9 : Hid (BoxN U0 B9 #[.int .u64 0, .int .u64 0, .int .i64 0, .slice none 0 0]) := Lib.hid (by rw [← hU0, ← hB9]; exact BoxN.new wr _ _)
                have HR5 := Lib.hid (HR.out.below (show Below wr.heap.size wr U0 by rw [← hU0]; exact bAlloc (Below.refl _ _) _))
                have hB9l : wr.heap.size ≤ B9 := by omega
                have hS9 : S + 2 < B9 := by omega
                have HU0 := Lib.hid hU0
                have HB9 := Lib.hid hB9
                clear hU0 hB9 he hx hx1 hx2 hx3 hx4 hx5 hj hm5
                go_upto_region 16 with fail
                rw [HU0.out, HB9.out]
                clear HU0
                go_wp2_with fail
                refine (HC1'.out _ HR5.out).mono ?_; rintro e G1 ⟨rfl, hrd, hkp⟩
                have HW5 := Lib.hid (step_kp HW5.out hkp)
                have HX9 := Lib.hid (step_box HX9.out hkp (by omega))
                have HR5 := Lib.hid hrd
                clear hrd hkp
                have t : G1.cell? ⟨B9, 0, none⟩ = some (.int .u64 0) := HX9.out.cell 0
                have tz : G1.frozen? ⟨B9, 0, none⟩ = false := HX9.out.frozen 0
                go_upto_region 17 with fail
                have HR5 := Lib.hid (rr_setB (B := B9) (j := 0) HR5.out (by omega) (.int .u64 (y1 : Int)))
                have HW5 := Lib.hid (kp_set (B := B9) (j := 0) HW5.out hB9l (.int .u64 (y1 : Int)))
                have HX9 := Lib.hid (show BoxN _ _ #[.int .u64 (y1 : Int), .int .u64 0, .int .i64 0, .slice none 0 0] from HX9.out.set 0 (.int .u64 (y1 : Int)))
                obtain ⟨U1, hU1⟩ : ∃ W', G1.setCell ⟨B9, 0, none⟩ (.int .u64 (y1 : Int)) = W' := ⟨_, rfl⟩
                rw [hU1] at HR5 HW5 HX9 ⊢
                clear hU1 t tz
                go_wp2_with fail
                refine (HC2'.out _ HR5.out).mono ?_; rintro e G2 ⟨rfl, hrd, hkp⟩
                have HW5 := Lib.hid (step_kp HW5.out hkp)
                have HX9 := Lib.hid (step_box HX9.out hkp (by omega))
                have HR5 := Lib.hid hrd
                clear hrd hkp
                have t : G2.cell? ⟨B9, 1, none⟩ = some (.int .u64 0) := HX9.out.cell 1
                have tz : G2.frozen? ⟨B9, 1, none⟩ = false := HX9.out.frozen 1
                go_upto_region 18 with fail
                have HR5 := Lib.hid (rr_setB (B := B9) (j := 1) HR5.out (by omega) (.int .u64 (y2 : Int)))
                have HW5 := Lib.hid (kp_set (B := B9) (j := 1) HW5.out hB9l (.int .u64 (y2 : Int)))
                have HX9 := Lib.hid (show BoxN _ _ #[.int .u64 (y1 : Int), .int .u64 (y2 : Int), .int .i64 0, .slice none 0 0] from HX9.out.set 1 (.int .u64 (y2 : Int)))
                obtain ⟨U2, hU2⟩ : ∃ W', G2.setCell ⟨B9, 1, none⟩ (.int .u64 (y2 : Int)) = W' := ⟨_, rfl⟩
                rw [hU2] at HR5 HW5 HX9 ⊢
                clear hU2 t tz
                go_wp2_with fail
                refine (HC3'.out _ HR5.out).mono ?_; rintro e G3 ⟨rfl, hrd, hkp⟩
                have HW5 := Lib.hid (step_kp HW5.out hkp)
                have HX9 := Lib.hid (step_box HX9.out hkp (by omega))
                have HR5 := Lib.hid hrd
                clear hrd hkp
                have t : G3.cell? ⟨B9, 2, none⟩ = some (.int .i64 0) := HX9.out.cell 2
                have tz : G3.frozen? ⟨B9, 2, none⟩ = false := HX9.out.frozen 2
                go_upto_region 19 with fail
                have HR5 := Lib.hid (rr_setB (B := B9) (j := 2) HR5.out (by omega) (.int .i64 (y3 : Int)))
                have HW5 := Lib.hid (kp_set (B := B9) (j := 2) HW5.out hB9l (.int .i64 (y3 : Int)))
                have HX9 := Lib.hid (show BoxN _ _ #[.int .u64 (y1 : Int), .int .u64 (y2 : Int), .int .i64 (y3 : Int), .slice none 0 0] from HX9.out.set 2 (.int .i64 (y3 : Int)))
                obtain ⟨U3, hU3⟩ : ∃ W', G3.setCell ⟨B9, 2, none⟩ (.int .i64 (y3 : Int)) = W' := ⟨_, rfl⟩
                rw [hU3] at HR5 HW5 HX9 ⊢
                clear hU3 t tz
                go_wp2_with fail
                refine (HC4'.out _ HR5.out).mono ?_; rintro e G4 ⟨rfl, hrd, hkp⟩
                have HW5 := Lib.hid (step_kp HW5.out hkp)
                have HX9 := Lib.hid (step_box HX9.out hkp (by omega))
                have HR5 := Lib.hid hrd
                clear hrd hkp
                have hG4 := HX9.out.lt
                go_wp2_with fail
                refine (HC5'.out _ HR5.out).mono ?_; rintro e G5 ⟨⟨ba, bc, rfl, hnb⟩, hrd, hkp⟩
                have HW5 := Lib.hid (step_kp HW5.out hkp)
                have HX9 := Lib.hid (step_box HX9.out hkp (by omega))
                have HR5 := Lib.hid hrd
                have HNB1 : Hid (NewB (fun q => G4.heap.size ≤ q) G5 ba y5) := Lib.hid hnb
                clear hrd hkp hnb
                have t : G5.cell? ⟨B9, 3, none⟩ = some (.slice none 0 0) := HX9.out.cell 3
                have tz : G5.frozen? ⟨B9, 3, none⟩ = false := HX9.out.frozen 3
                go_upto_region 21 with fail
                have HR5 := Lib.hid (rr_setB (B := B9) (j := 3) HR5.out (by omega) (.slice ba m5 bc))
                have HW5 := Lib.hid (kp_set (B := B9) (j := 3) HW5.out hB9l (.slice ba m5 bc))
                have HX9 := Lib.hid (show BoxN _ _ #[.int .u64 (y1 : Int), .int .u64 (y2 : Int), .int .i64 (y3 : Int), .slice ba m5 bc] from HX9.out.set 3 (.slice ba m5 bc))
                have HNB1 := Lib.hid (HNB1.out.kp (KP.set1 G5 B9 3 (.slice ba m5 bc)) (Nat.le_refl _) (fun q hq hq2 e => by have h1 : q = B9 := e; have h2 : G4.heap.size ≤ q := hq; omega))
                obtain ⟨U5, hU5⟩ : ∃ W', G5.setCell ⟨B9, 3, none⟩ (.slice ba m5 bc) = W' := ⟨_, rfl⟩
                rw [hU5] at HR5 HW5 HX9 HNB1 ⊢
                clear hU5 t tz
                have HX5 := Lib.hid (step_box HX.out HW5.out (by omega))
                have HO5 := Lib.hid (own_kp HO.out HW5.out (by omega))
                have HNB2 := Lib.hid (fun g (hg : g ∈ xs) => (HNB.out g hg).kp HW5.out (Nat.le_refl _) (fun q hq _ e => by have h1 : q = S + 1 := e; have h2 := hq.1; omega))
                have HLT := Lib.hid (fun r (hr : v.ownBlock = some r) => (HO.out.lt r hr).2)
                have hs5 := HX5.out.lt
                have cv5 : U5.cell? ⟨S + 2, 2, none⟩ = some v := HX5.out.cell 2
                have zv5 : U5.frozen? ⟨S + 2, 2, none⟩ = false := HX5.out.frozen 2
                have e0 : U5.cell? ⟨B9, 0, none⟩ = some (.int .u64 (y1 : Int)) := HX9.out.cell 0
                have e1 : U5.cell? ⟨B9, 1, none⟩ = some (.int .u64 (y2 : Int)) := HX9.out.cell 1
                have e2 : U5.cell? ⟨B9, 2, none⟩ = some (.int .i64 (y3 : Int)) := HX9.out.cell 2
                have e3 : U5.cell? ⟨B9, 3, none⟩ = some (.slice ba m5 bc) := HX9.out.cell 3
                go_wp2_with (at_builtin; refine wpList_appE 25 39 (.agg #[.int .u64 0, .int .u64 0, .int .i64 0, .slice none 0 0]) 4 48 Try.underlying25 infoSeg rfl (by decide) (by decide) _ rfl _ _ rfl VN.heap.size v xs.length (segsC xs) rfl (HO5.out.alloc _) (some ⟨U5.heap.size, 0, none⟩) 1 1 [.int .u64 (y1 : Int), .int .u64 (y2 : Int), .int .i64 (y3 : Int), .slice ba m5 bc] rfl (Rd.lit U5 #[.int .u64 (y1 : Int), .int .u64 (y2 : Int), .int .i64 (y3 : Int), .slice ba m5 bc] 39 (by show 4 ≤ maxLen; decide)) (fun u hu => by simp only [List.mem_cons, List.not_mem_nil, or_false] at hu; rcases hu with rfl | rfl | rfl | rfl <;> rfl) (by have := HLN.out; omega) (by rw [size_alloc]; have := HW5.out.size; omega) ?_; intro a7 c7 W7 hown7 hgrow7 hat7; have HOn := Lib.hid (show W7.ownsRow VN.heap.size 39 4 (.slice a7 (xs.length + 1) c7) (xs ++ [(⟨(y1 : Int), (y2 : Int), (y3 : Int), y5, ba, bc⟩ : Seg)]).length (segsC (xs ++ [(⟨(y1 : Int), (y2 : Int), (y3 : Int), y5, ba, bc⟩ : Seg)])) by rw [segsC_snoc, List.length_append]; unfold segC; rw [HM5.out]; exact hown7); have HKA : Hid (KP wr.heap.size (· = S + 1) wr (U5.alloc (.cells #[.int .u64 (y1 : Int), .int .u64 (y2 : Int), .int .i64 (y3 : Int), .slice ba m5 bc] 39))) := Lib.hid (HW5.out.alloc _ HW5.out.size); have hAs : VN.heap.size ≤ (U5.alloc (.cells #[.int .u64 (y1 : Int), .int .u64 (y2 : Int), .int .i64 (y3 : Int), .slice ba m5 bc] 39)).heap.size := Nat.le_trans hnw HKA.out.size; have HR7 : Hid (RrAt S (S + 1) W7 b s1') := Lib.hid ((HR5.out.below (bAlloc (Below.refl _ _) (.cells #[.int .u64 (y1 : Int), .int .u64 (y2 : Int), .int .i64 (y3 : Int), .slice ba m5 bc] 39))).kp ((KP.refl (S + 2) (fun _ => False) (U5.alloc (.cells #[.int .u64 (y1 : Int), .int .u64 (y2 : Int), .int .i64 (y3 : Int), .slice ba m5 bc] 39))).grown hgrow7 (by omega) (fun r e => Or.inl (by have := (HO5.out.lt r e).1; omega))) (Nat.lt_succ_self (S + 1)) (fun _ _ => id)); have HK7 : Hid (KP VN.heap.size (fun q => q = S + 1 ∨ q = S + 2) VN W7) := Lib.hid ((HK.out.trans (HKA.out.mono hnw (fun _ _ q => Or.inl q))).grown hgrow7 hAs (fun r e => Or.inl (HO5.out.lt r e).1)); have HX7 : Hid (BoxN W7 (S + 2) #[.string ⟨x1.toArray⟩, .slice na x2.length nc, v, .slice none 0 0, .slice none 0 0, .slice none 0 0, .slice none 0 0]) := Lib.hid ((boxN_alloc HX5.out (.cells #[.int .u64 (y1 : Int), .int .u64 (y2 : Int), .int .i64 (y3 : Int), .slice ba m5 bc] 39)).kp ((KP.refl VN.heap.size (fun _ => False) (U5.alloc (.cells #[.int .u64 (y1 : Int), .int .u64 (y2 : Int), .int .i64 (y3 : Int), .slice ba m5 bc] 39))).grown hgrow7 hAs (fun r e => Or.inl (HO5.out.lt r e).1)) hVS id); have cv7 : W7.cell? ⟨S + 2, 2, none⟩ = some v := HX7.out.cell 2; have zv7 : W7.frozen? ⟨S + 2, 2, none⟩ = false := HX7.out.frozen 2)
                have HNB3 : Hid (∀ g ∈ xs ++ [(⟨(y1 : Int), (y2 : Int), (y3 : Int), y5, ba, bc⟩ : Seg)], NewB (fun q => VN.heap.size ≤ q ∧ (Value.slice a7 (xs.length + 1) c7).ownBlock ≠ some q) W7 g.ba g.bytes) := Lib.hid (fun g hg => by
                  have hP : NewB (fun q => (VN.heap.size ≤ q ∧ v.ownBlock ≠ some q) ∧ q < U5.heap.size) U5 g.ba g.bytes := by
                    rcases List.mem_append.1 hg with hg | hg
                    · exact (HNB2.out g hg).mono (fun q h1 h2 => ⟨h2, h1⟩)
                    · rw [List.mem_singleton] at hg
                      subst hg
                      exact HNB1.out.mono (fun q h1 h2 => ⟨⟨by have h3 : G4.heap.size ≤ q := h2; have h4 := HB9.out; omega, fun e => by have h3 := HLT.out q e; have h4 : G4.heap.size ≤ q := h2; have h5 := HB9.out; omega⟩, h1⟩)
                  have hA := hP.kp (KP.of_below (fun _ => False) (bAlloc (Below.refl U5.heap.size U5) (.cells #[.int .u64 (y1 : Int), .int .u64 (y2 : Int), .int .i64 (y3 : Int), .slice ba m5 bc] 39))) (Nat.le_refl _) (fun _ _ _ => id)
                  have hB := hA.kp ((KP.refl (U5.alloc (.cells #[.int .u64 (y1 : Int), .int .u64 (y2 : Int), .int .i64 (y3 : Int), .slice ba m5 bc] 39)).heap.size (fun q => v.ownBlock = some q) _).grown hgrow7 (Nat.le_refl _) (fun r e => Or.inr e)) (Nat.le_refl _) (fun q hq _ e => hq.1.2 e)
                  exact hB.mono (fun q _ hq => ⟨hq.1.1, fun e => by
                    rcases hat7 with h3 | h3
                    · rw [h3] at e; exact hq.1.2 e
                    · rw [h3, size_alloc] at e
                      have h4 := hq.2
                      have h5 : U5.heap.size + 1 = q := by simpa using e
                      omega⟩))
                clear hown7 hgrow7 hat7 cv5 zv5 e0 e1 e2 e3 cv7 zv7
                have HR8 := Lib.hid (rr_setB (B := S + 2) (j := 2) HR7.out (by omega) (.slice a7 (xs.length + 1) c7))
                have HK8 := Lib.hid (HK7.out.set ⟨S + 2, 2, none⟩ (Or.inr (Or.inr rfl)) (.slice a7 (xs.length + 1) c7))
                have HX8 := Lib.hid (show BoxN _ _ #[.string ⟨x1.toArray⟩, .slice na x2.length nc, .slice a7 (xs.length + 1) c7, .slice none 0 0, .slice none 0 0, .slice none 0 0, .slice none 0 0] from HX7.out.set 2 (.slice a7 (xs.length + 1) c7))
                have HO8 := Lib.hid (own_kpS HOn.out (KP.set1 W7 (S + 2) 2 (.slice a7 (xs.length + 1) c7)) (fun q hq e => by omega))
                have HN8 := Lib.hid (fun g hg => (HNB3.out g hg).kp (KP.set1 W7 (S + 2) 2 (.slice a7 (xs.length + 1) c7)) (Nat.le_refl _) (fun q hq _ e => by have h1 : q = S + 2 := e; have h2 := hq.1; omega))
                obtain ⟨W8, hW8⟩ : ∃ W', W7.setCell ⟨S + 2, 2, none⟩ (.slice a7 (xs.length + 1) c7) = W' := ⟨_, rfl⟩
                rw [hW8] at HR8 HK8 HX8 HO8 HN8 ⊢
                clear hW8
                go_roundw
                case rel => exact ⟨k + 1, i, s1', _, xs ++ [(⟨(y1 : Int), (y2 : Int), (y3 : Int), y5, ba, bc⟩ : Seg)], by go_num, by have := HJ.out; omega, hs1, Lib.hid (by rw [List.length_append, HXK.out]; rfl), HX8, HO8, HR8, HK8, HN8, Lib.hid (by rw [← HE2.out]; simp [coreG])⟩
                case measure => simp [intOf] <;> omega
              · have he := HE.out
                have hend : listP segP r sj = ([], sj) := by
                  rcases Nat.eq_zero_or_pos r with h0 | h0
                  · subst h0; rfl
                  · exact listP_wrong _ _ _ (fun q => hgo ⟨h0, HWR.out.symm.trans q⟩)
                rw [hend, List.append_nil] at he
                simp only [Prod.mk.injEq] at he
                obtain ⟨he1, he2⟩ := he
                have HE1 := Lib.hid he1
                clear he1
                subst he2
                obtain ⟨a', c', rfl, -⟩ := own_slice HO.out
                clear hend
                have HB := Lib.hid (below_kp HB.out HK.out (fun q hq e => by omega))
                have HZ := Lib.hid (HZ.out.kp HK.out (by omega) (by omega))
                have P2 := Lib.hid (P2.out.kp HK.out (Nat.le_refl _) (fun q hq e => by omega))
                have P3 := Lib.hid (rdIn_of_own (B' := S + 3) HO.out (by omega))
                have P3b := Lib.hid (fun g hg => (HNB.out g hg).mono (P' := fun q => S + 3 ≤ q) (fun q _ hq => by have := hq.1; omega))
                by_cases hj0 : 0 < r
                · have hw0 : ¬ wr1 = 0 := fun q => hgo ⟨hj0, q⟩
                  have ej0 : (k : Int) < (n3 : Int) := by omega
                  clear hj
                  go_wp2_with fail
                  go_meet
                  case rel => exact ⟨a', c', xs, HB, HR, HX, HZ, P2, HE1, P3, P3b⟩
                · have ej0 : ¬ (k : Int) < (n3 : Int) := by omega
                  clear hj
                  go_wp2_with fail
                  go_meet
                  case rel => exact ⟨a', c', xs, HB, HR, HX, HZ, P2, HE1, P3, P3b⟩
        case rest =>
          clear HB HR HX HZ P2 hVS
          obtain ⟨ga, gc, gs, HB, HR, HX, HZ, P2, P3c, P3, P3b⟩ := hcut
          go_wp2_with fail
          refine (HN4.out _ HR.out).mono ?_; rintro e VN ⟨rfl, hrd, hkp⟩
          have HX := Lib.hid (step_box HX.out hkp (by omega))
          have HZ := Lib.hid (step_box HZ.out hkp (by omega))
          have HB := Lib.hid (below_kp HB.out hkp (fun q hq e => by omega))
          have HR := Lib.hid hrd
          have P2 := Lib.hid (P2.out.kp hkp (Nat.le_refl _) (fun q hq e => by omega))
          have P3 := Lib.hid (P3.out.kp hkp (Nat.le_refl _) (fun q hq e => by omega))
          have P3b := Lib.hid (fun g hg => (P3b.out g hg).kp hkp (Nat.le_refl _) (fun q hq _ e => by omega))
          clear hrd hkp
          have hVS : S + 2 < VN.heap.size := HX.out.lt
          go_upto_block 4 with fail
          go_cut [11] from 15 (fun s11 wd => ∃ sa sc, Hid (Below w.heap.size w wd) ∧ Hid (RrAt S (S + 1) wd b s4) ∧ Hid (BoxN wd (S + 2) #[.string ⟨x1.toArray⟩, .slice na x2.length nc, .slice ga gs.length gc, .slice sa x4.length sc, .slice none 0 0, .slice none 0 0, .slice none 0 0]) ∧ Hid (BoxN wd S #[.string ⟨#[]⟩, .slice none 0 0, .slice none 0 0, .slice none 0 0, .slice none 0 0, .slice none 0 0, .slice none 0 0]) ∧ Hid (RdIn (S + 3) wd na (x2.length * 1) (txs x2)) ∧ Hid (gs.map coreG = x3) ∧ Hid (RdIn (S + 3) wd ga (gs.length * 4) (segsC gs)) ∧ Hid (∀ g ∈ gs, NewB (fun q => S + 3 ≤ q) wd g.ba g.bytes) ∧ Hid (RdIn (S + 3) wd sa (x4.length * 8) (symsC x4)))
          case first =>
            go_wp2_with fail
            go_loopw [11] (fun iv wr => ∃ (k r : Nat) (sj : St) (v : Value) (xs : List (Sym)), iv = .int .i64 (k : Int) ∧ k + r = n4 ∧ Hid (xs.length = k) ∧ Hid (BoxN wr (S + 2) #[.string ⟨x1.toArray⟩, .slice na x2.length nc, .slice ga gs.length gc, v, .slice none 0 0, .slice none 0 0, .slice none 0 0]) ∧ Hid (wr.ownsRow VN.heap.size 42 8 v xs.length (symsC xs)) ∧ Hid (RrAt S (S + 1) wr b sj) ∧ Hid (KP VN.heap.size (fun q => q = S + 1 ∨ q = S + 2) VN wr) ∧ Hid ((xs ++ (listP symP r sj).1, (listP symP r sj).2) = (x4, s4))) (fun iv _ => n4 - (intOf iv).toNat)
            case atStart => exact ⟨0, n4, t4, _, [], rfl, by omega, Lib.hid rfl, HX, Lib.hid (World.ownsRow_nil _ _ _ _), HR, Lib.hid (KP.refl _ _ _), Lib.hid HL4.out⟩
            case round =>
              obtain ⟨k, r, sj, v, xs, rfl, hj, HXK, HX2, HO, HR2, HK, HE⟩ := hrel
              clear HX HR
              have HX := HX2
              have HR := HR2
              clear HX2 HR2
              have hnw := HK.out.size
              have hkn : k ≤ n4 := by omega
              have HLN : Hid (xs.length < 65536) := Lib.hid (by rw [HXK.out]; omega)
              obtain ⟨k0, hk0, hk1, ra_, rc_, hbx, -, -⟩ := HR.out.box
              have c2 : wr.cell? ⟨S + 1, 2, none⟩ = some (.int .i64 sj.wrong) := hbx.cell 2
              obtain ⟨wr1, hwr1⟩ : ∃ x, sj.wrong = x := ⟨_, rfl⟩
              rw [hwr1] at c2
              have HWR := Lib.hid hwr1
              clear hbx hwr1 hk1 hk0
              by_cases hgo : 0 < r ∧ wr1 = 0
              · obtain ⟨hj0, hw0⟩ := hgo
                obtain ⟨i, rfl⟩ : ∃ i, r = i + 1 := ⟨r - 1, by omega⟩
                subst hw0
                have ej0 : (k : Int) < (n4 : Int) := by omega
                have HJ := Lib.hid hj
                have HC := Lib.hid (fun W (hW : RrAt S (S + 1) W b sj) => rsymbol_any S (S + 1) b sj W hW)
                obtain ⟨⟨y1, s1'⟩, hx⟩ : ∃ x, symP sj = x := ⟨_, rfl⟩
                have he := HE.out
                rw [listP_step HWR.out hx] at he
                rw [hx] at HC
                simp only [] at HC he
                unfold symC at HC
                have HE2 := Lib.hid he
                clear he hx hj
                have cv : wr.cell? ⟨S + 2, 3, none⟩ = some v := HX.out.cell 3
                have zv : wr.frozen? ⟨S + 2, 3, none⟩ = false := HX.out.frozen 3
                go_upto_region 26 with fail
                go_region_law (first
                  | (go_simp; go_at_call 18; refine (HC.out _ HR.out.drew).mono ?_; rintro e W5 ⟨rfl, hrd, hkp⟩; have HR5 := Lib.hid hrd; have HW5 : Hid (KP wr.heap.size (· = S + 1) wr W5) := Lib.hid (((KP.refl wr.heap.size (· = S + 1) wr).drew).trans hkp); have HX5 := Lib.hid (step_box HX.out HW5.out (by omega)); have HO5 := Lib.hid (own_kp HO.out HW5.out (by omega)); have cv5 : W5.cell? ⟨S + 2, 3, none⟩ = some v := HX5.out.cell 3; have zv5 : W5.frozen? ⟨S + 2, 3, none⟩ = false := HX5.out.frozen 3; have hs5 := HX5.out.lt; clear hrd hkp; dsimp only)
                  | (refine step_appE 26 42 (.agg #[.string ⟨#[]⟩, .string ⟨#[]⟩, .int .u64 0, .int .u64 0, .int .i64 0, .int .i64 0, .int .i64 0, .bool false]) 8 80 Try.underlying26 infoSym rfl (by decide) (by decide) _ rfl _ _ rfl VN.heap.size v xs.length (symsC xs) rfl (HO5.out.alloc _) (some ⟨W5.heap.size, 0, none⟩) 1 1 [.string ⟨y1.name.toArray⟩, .string ⟨y1.ver.toArray⟩, .int .u64 y1.place, .int .u64 y1.size, .int .i64 y1.kind, .int .i64 y1.bind, .int .i64 y1.seen, .bool y1.defd] rfl (Rd.lit W5 #[.string ⟨y1.name.toArray⟩, .string ⟨y1.ver.toArray⟩, .int .u64 y1.place, .int .u64 y1.size, .int .i64 y1.kind, .int .i64 y1.bind, .int .i64 y1.seen, .bool y1.defd] 42 (by show 8 ≤ maxLen; decide)) (fun u hu => by simp only [List.mem_cons, List.not_mem_nil, or_false] at hu; rcases hu with rfl | rfl | rfl | rfl | rfl | rfl | rfl | rfl <;> rfl) (by have := HLN.out; omega) (by rw [size_alloc]; have := HW5.out.size; omega) ?_; intro a7 c7 W7 hown7 hgrow7 hat7; have HOn := Lib.hid (show W7.ownsRow VN.heap.size 42 8 (.slice a7 (xs.length + 1) c7) (xs ++ [y1]).length (symsC (xs ++ [y1])) by rw [symsC_snoc, List.length_append]; exact hown7); have HKA : Hid (KP wr.heap.size (· = S + 1) wr (W5.alloc (.cells #[.string ⟨y1.name.toArray⟩, .string ⟨y1.ver.toArray⟩, .int .u64 y1.place, .int .u64 y1.size, .int .i64 y1.kind, .int .i64 y1.bind, .int .i64 y1.seen, .bool y1.defd] 42))) := Lib.hid (HW5.out.alloc _ HW5.out.size); have hAs : VN.heap.size ≤ (W5.alloc (.cells #[.string ⟨y1.name.toArray⟩, .string ⟨y1.ver.toArray⟩, .int .u64 y1.place, .int .u64 y1.size, .int .i64 y1.kind, .int .i64 y1.bind, .int .i64 y1.seen, .bool y1.defd] 42)).heap.size := Nat.le_trans hnw HKA.out.size; have HR7 : Hid (RrAt S (S + 1) W7 b s1') := Lib.hid ((HR5.out.below (bAlloc (Below.refl _ _) (.cells #[.string ⟨y1.name.toArray⟩, .string ⟨y1.ver.toArray⟩, .int .u64 y1.place, .int .u64 y1.size, .int .i64 y1.kind, .int .i64 y1.bind, .int .i64 y1.seen, .bool y1.defd] 42))).kp ((KP.refl (S + 2) (fun _ => False) (W5.alloc (.cells #[.string ⟨y1.name.toArray⟩, .string ⟨y1.ver.toArray⟩, .int .u64 y1.place, .int .u64 y1.size, .int .i64 y1.kind, .int .i64 y1.bind, .int .i64 y1.seen, .bool y1.defd] 42))).grown hgrow7 (by omega) (fun r e => Or.inl (by have := (HO5.out.lt r e).1; omega))) (Nat.lt_succ_self (S + 1)) (fun _ _ => id)); have HK7 : Hid (KP VN.heap.size (fun q => q = S + 1 ∨ q = S + 2) VN W7) := Lib.hid ((HK.out.trans (HKA.out.mono hnw (fun _ _ q => Or.inl q))).grown hgrow7 hAs (fun r e => Or.inl (HO5.out.lt r e).1)); have HX7 : Hid (BoxN W7 (S + 2) #[.string ⟨x1.toArray⟩, .slice na x2.length nc, .slice ga gs.length gc, v, .slice none 0 0, .slice none 0 0, .slice none 0 0]) := Lib.hid ((boxN_alloc HX5.out (.cells #[.string ⟨y1.name.toArray⟩, .string ⟨y1.ver.toArray⟩, .int .u64 y1.place, .int .u64 y1.size, .int .i64 y1.kind, .int .i64 y1.bind, .int .i64 y1.seen, .bool y1.defd] 42)).kp ((KP.refl VN.heap.size (fun _ => False) (W5.alloc (.cells #[.string ⟨y1.name.toArray⟩, .string ⟨y1.ver.toArray⟩, .int .u64 y1.place, .int .u64 y1.size, .int .i64 y1.kind, .int .i64 y1.bind, .int .i64 y1.seen, .bool y1.defd] 42))).grown hgrow7 hAs (fun r e => Or.inl (HO5.out.lt r e).1)) hVS id); clear hown7 hgrow7 hat7; have cv7 : W7.cell? ⟨S + 2, 3, none⟩ = some v := HX7.out.cell 3; have zv7 : W7.frozen? ⟨S + 2, 3, none⟩ = false := HX7.out.frozen 3))
                all_goals
                  clear cv zv cv5 zv5 cv7 zv7
                  have HR8 := Lib.hid (rr_setB (B := S + 2) (j := 3) HR7.out (by omega) (.slice a7 (xs.length + 1) c7))
                  have HK8 := Lib.hid (HK7.out.set ⟨S + 2, 3, none⟩ (Or.inr (Or.inr rfl)) (.slice a7 (xs.length + 1) c7))
                  have HX8 := Lib.hid (show BoxN _ _ #[.string ⟨x1.toArray⟩, .slice na x2.length nc, .slice ga gs.length gc, .slice a7 (xs.length + 1) c7, .slice none 0 0, .slice none 0 0, .slice none 0 0] from HX7.out.set 3 (.slice a7 (xs.length + 1) c7))
                  have HO8 := Lib.hid (own_kpS HOn.out (KP.set1 W7 (S + 2) 3 (.slice a7 (xs.length + 1) c7)) (fun q hq e => by omega))
                  obtain ⟨W8, hW8⟩ : ∃ W', W7.setCell ⟨S + 2, 3, none⟩ (.slice a7 (xs.length + 1) c7) = W' := ⟨_, rfl⟩
                  rw [hW8] at HR8 HK8 HX8 HO8 ⊢
                  clear hW8
                  go_wp2_with fail
                  go_roundw
                  case rel => exact ⟨k + 1, i, s1', _, xs ++ [y1], by go_num, by have := HJ.out; omega, Lib.hid (by rw [List.length_append, HXK.out]; rfl), HX8, HO8, HR8, HK8, Lib.hid (by rw [← HE2.out]; simp)⟩
                  case measure => simp [intOf] <;> omega
              · have he := HE.out
                have hend : listP symP r sj = ([], sj) := by
                  rcases Nat.eq_zero_or_pos r with h0 | h0
                  · subst h0; rfl
                  · exact listP_wrong _ _ _ (fun q => hgo ⟨h0, HWR.out.symm.trans q⟩)
                rw [hend, List.append_nil] at he
                simp only [Prod.mk.injEq] at he
                obtain ⟨he1, he2⟩ := he
                subst he1
                subst he2
                obtain ⟨a', c', rfl, -⟩ := own_slice HO.out
                clear hend
                have HB := Lib.hid (below_kp HB.out HK.out (fun q hq e => by omega))
                have HZ := Lib.hid (HZ.out.kp HK.out (by omega) (by omega))
                have P2 := Lib.hid (P2.out.kp HK.out (Nat.le_refl _) (fun q hq e => by omega))
                have P3 := Lib.hid (P3.out.kp HK.out (Nat.le_refl _) (fun q hq e => by omega))
                have P3b := Lib.hid (fun g hg => (P3b.out g hg).kp HK.out (Nat.le_refl _) (fun q hq _ e => by omega))
                have P4 := Lib.hid (rdIn_of_own (B' := S + 3) HO.out (by omega))
                by_cases hj0 : 0 < r
                · have hw0 : ¬ wr1 = 0 := fun q => hgo ⟨hj0, q⟩
                  have ej0 : (k : Int) < (n4 : Int) := by omega
                  clear hj
                  go_wp2_with fail
                  go_meet
                  case rel => exact ⟨a', c', HB, HR, HX, HZ, P2, P3c, P3, P3b, P4⟩
                · have ej0 : ¬ (k : Int) < (n4 : Int) := by omega
                  clear hj
                  go_wp2_with fail
                  go_meet
                  case rel => exact ⟨a', c', HB, HR, HX, HZ, P2, P3c, P3, P3b, P4⟩
          case rest =>
            clear HB HR HX HZ P2 P3c P3 P3b hVS
            obtain ⟨sa, sc, HB, HR, HX, HZ, P2, P3c, P3, P3b, P4⟩ := hcut
            go_wp2_with fail
            refine (HN5.out _ HR.out).mono ?_; rintro e VN ⟨rfl, hrd, hkp⟩
            have HX := Lib.hid (step_box HX.out hkp (by omega))
            have HZ := Lib.hid (step_box HZ.out hkp (by omega))
            have HB := Lib.hid (below_kp HB.out hkp (fun q hq e => by omega))
            have HR := Lib.hid hrd
            have P2 := Lib.hid (P2.out.kp hkp (Nat.le_refl _) (fun q hq e => by omega))
            have P3 := Lib.hid (P3.out.kp hkp (Nat.le_refl _) (fun q hq e => by omega))
            have P3b := Lib.hid (fun g hg => (P3b.out g hg).kp hkp (Nat.le_refl _) (fun q hq _ e => by omega))
            have P4 := Lib.hid (P4.out.kp hkp (Nat.le_refl _) (fun q hq e => by omega))
            clear hrd hkp
            have hVS : S + 2 < VN.heap.size := HX.out.lt
            go_upto_block 6 with fail
            go_cut [12, 13] from 15 (fun s12 s13 wd => ∃ ra rc, Hid (Below w.heap.size w wd) ∧ Hid (RrAt S (S + 1) wd b s5) ∧ Hid (BoxN wd (S + 2) #[.string ⟨x1.toArray⟩, .slice na x2.length nc, .slice ga gs.length gc, .slice sa x4.length sc, .slice ra x5.length rc, .slice none 0 0, .slice none 0 0]) ∧ Hid (BoxN wd S #[.string ⟨#[]⟩, .slice none 0 0, .slice none 0 0, .slice none 0 0, .slice none 0 0, .slice none 0 0, .slice none 0 0]) ∧ Hid (RdIn (S + 3) wd na (x2.length * 1) (txs x2)) ∧ Hid (gs.map coreG = x3) ∧ Hid (RdIn (S + 3) wd ga (gs.length * 4) (segsC gs)) ∧ Hid (∀ g ∈ gs, NewB (fun q => S + 3 ≤ q) wd g.ba g.bytes) ∧ Hid (RdIn (S + 3) wd sa (x4.length * 8) (symsC x4)) ∧ Hid (RdIn (S + 3) wd ra (x5.length * 2) (relsC x5)))
            case first =>
              go_wp2_with fail
              go_loopw [12, 13] (fun iv _ wr => ∃ (k r : Nat) (sj : St) (v : Value) (xs : List (Rel)), iv = .int .i64 (k : Int) ∧ k + r = n5 ∧ Hid (xs.length = k) ∧ Hid (BoxN wr (S + 2) #[.string ⟨x1.toArray⟩, .slice na x2.length nc, .slice ga gs.length gc, .slice sa x4.length sc, v, .slice none 0 0, .slice none 0 0]) ∧ Hid (wr.ownsRow VN.heap.size 44 2 v xs.length (relsC xs)) ∧ Hid (RrAt S (S + 1) wr b sj) ∧ Hid (KP VN.heap.size (fun q => q = S + 1 ∨ q = S + 2) VN wr) ∧ Hid ((xs ++ (listP relP r sj).1, (listP relP r sj).2) = (x5, s5))) (fun iv _ _ => n5 - (intOf iv).toNat)
              case atStart => exact ⟨0, n5, t5, _, [], rfl, by omega, Lib.hid rfl, HX, Lib.hid (World.ownsRow_nil _ _ _ _), HR, Lib.hid (KP.refl _ _ _), Lib.hid HL5.out⟩
              case round =>
                obtain ⟨k, r, sj, v, xs, rfl, hj, HXK, HX2, HO, HR2, HK, HE⟩ := hrel
                clear HX HR
                have HX := HX2
                have HR := HR2
                clear HX2 HR2
                have hnw := HK.out.size
                have hkn : k ≤ n5 := by omega
                have HLN : Hid (xs.length < 65536) := Lib.hid (by rw [HXK.out]; omega)
                obtain ⟨k0, hk0, hk1, ra_, rc_, hbx, -, -⟩ := HR.out.box
                have c2 : wr.cell? ⟨S + 1, 2, none⟩ = some (.int .i64 sj.wrong) := hbx.cell 2
                obtain ⟨wr1, hwr1⟩ : ∃ x, sj.wrong = x := ⟨_, rfl⟩
                rw [hwr1] at c2
                have HWR := Lib.hid hwr1
                clear hbx hwr1 hk1 hk0
                by_cases hgo : 0 < r ∧ wr1 = 0
                · obtain ⟨hj0, hw0⟩ := hgo
                  obtain ⟨i, rfl⟩ : ∃ i, r = i + 1 := ⟨r - 1, by omega⟩
                  subst hw0
                  have ej0 : (k : Int) < (n5 : Int) := by omega
                  have HJ := Lib.hid hj
                  have HCa := Lib.hid (fun W (hW : RrAt S (S + 1) W b sj) => rnum_any S (S + 1) b sj 4 W hW (by decide) (by decide))
                  have hpl := numP_lt 4 sj
                  obtain ⟨⟨p, sa'⟩, hx1⟩ : ∃ x, numP 4 sj = x := ⟨_, rfl⟩
                  rw [hx1] at HCa hpl
                  simp only [] at HCa
                  have hpl : p < 4294967296 := hpl
                  have wp : IntKind.u64.wrap (p : Int) = (p : Int) := by rw [IntKind.wrap_u64]; omega
                  have HCb := Lib.hid (fun W (hW : RrAt S (S + 1) W b sa') => rnum_any S (S + 1) b sa' 2 W hW (by decide) (by decide))
                  obtain ⟨⟨q, s1'⟩, hx2⟩ : ∃ x, numP 2 sa' = x := ⟨_, rfl⟩
                  rw [hx2] at HCb
                  simp only [] at HCb
                  have hx : relP sj = (⟨(p : Int), (q : Int)⟩, s1') := by unfold relP; simp only [hx1, hx2]
                  have he := HE.out
                  rw [listP_step HWR.out hx] at he
                  simp only [] at he
                  have HE2 := Lib.hid he
                  clear he hx hx1 hx2 hj
                  go_wp2_with fail
                  refine (HCa.out _ HR.out).mono ?_; rintro e W4 ⟨rfl, hrd, hkp⟩
                  have HR := Lib.hid hrd
                  have HX := Lib.hid (step_box HX.out hkp (by omega))
                  have HW4 := Lib.hid hkp
                  have cv : W4.cell? ⟨S + 2, 4, none⟩ = some v := HX.out.cell 4
                  have zv : W4.frozen? ⟨S + 2, 4, none⟩ = false := HX.out.frozen 4
                  clear hrd hkp
                  go_upto_region 32 with fail
                  go_region_law (first
                    | (go_simp; go_at_call 16; refine (HCb.out _ HR.out.drew).mono ?_; rintro e W5 ⟨rfl, hrd, hkp⟩; have HR5 := Lib.hid hrd; have HW5 : Hid (KP wr.heap.size (· = S + 1) wr W5) := Lib.hid (step_kp HW4.out (((KP.refl W4.heap.size (· = S + 1) W4).drew).trans hkp)); have HX5 := Lib.hid (step_box HX.out (((KP.refl W4.heap.size (· = S + 1) W4).drew).trans hkp) (by omega)); have HO5 := Lib.hid (own_kp HO.out HW5.out (by omega)); have cv5 : W5.cell? ⟨S + 2, 4, none⟩ = some v := HX5.out.cell 4; have zv5 : W5.frozen? ⟨S + 2, 4, none⟩ = false := HX5.out.frozen 4; have hs5 := HX5.out.lt; clear hrd hkp; dsimp only)
                    | (refine step_appE 27 44 (.agg #[.int .u64 0, .int .i64 0]) 2 16 Try.underlying27 infoRel rfl (by decide) (by decide) _ rfl _ _ rfl VN.heap.size v xs.length (relsC xs) rfl (HO5.out.alloc _) (some ⟨W5.heap.size, 0, none⟩) 1 1 [.int .u64 (p : Int), .int .i64 (q : Int)] rfl (Rd.lit W5 #[.int .u64 (p : Int), .int .i64 (q : Int)] 44 (by show 2 ≤ maxLen; decide)) (fun u hu => by simp only [List.mem_cons, List.not_mem_nil, or_false] at hu; rcases hu with rfl | rfl <;> rfl) (by have := HLN.out; omega) (by rw [size_alloc]; have := HW5.out.size; omega) ?_; intro a7 c7 W7 hown7 hgrow7 hat7; have HOn := Lib.hid (show W7.ownsRow VN.heap.size 44 2 (.slice a7 (xs.length + 1) c7) (xs ++ [(⟨(p : Int), (q : Int)⟩ : Rel)]).length (relsC (xs ++ [(⟨(p : Int), (q : Int)⟩ : Rel)])) by rw [relsC_snoc, List.length_append]; exact hown7); have HKA : Hid (KP wr.heap.size (· = S + 1) wr (W5.alloc (.cells #[.int .u64 (p : Int), .int .i64 (q : Int)] 44))) := Lib.hid (HW5.out.alloc _ HW5.out.size); have hAs : VN.heap.size ≤ (W5.alloc (.cells #[.int .u64 (p : Int), .int .i64 (q : Int)] 44)).heap.size := Nat.le_trans hnw HKA.out.size; have HR7 : Hid (RrAt S (S + 1) W7 b s1') := Lib.hid ((HR5.out.below (bAlloc (Below.refl _ _) (.cells #[.int .u64 (p : Int), .int .i64 (q : Int)] 44))).kp ((KP.refl (S + 2) (fun _ => False) (W5.alloc (.cells #[.int .u64 (p : Int), .int .i64 (q : Int)] 44))).grown hgrow7 (by omega) (fun r e => Or.inl (by have := (HO5.out.lt r e).1; omega))) (Nat.lt_succ_self (S + 1)) (fun _ _ => id)); have HK7 : Hid (KP VN.heap.size (fun q => q = S + 1 ∨ q = S + 2) VN W7) := Lib.hid ((HK.out.trans (HKA.out.mono hnw (fun _ _ q => Or.inl q))).grown hgrow7 hAs (fun r e => Or.inl (HO5.out.lt r e).1)); have HX7 : Hid (BoxN W7 (S + 2) #[.string ⟨x1.toArray⟩, .slice na x2.length nc, .slice ga gs.length gc, .slice sa x4.length sc, v, .slice none 0 0, .slice none 0 0]) := Lib.hid ((boxN_alloc HX5.out (.cells #[.int .u64 (p : Int), .int .i64 (q : Int)] 44)).kp ((KP.refl VN.heap.size (fun _ => False) (W5.alloc (.cells #[.int .u64 (p : Int), .int .i64 (q : Int)] 44))).grown hgrow7 hAs (fun r e => Or.inl (HO5.out.lt r e).1)) hVS id); clear hown7 hgrow7 hat7; have cv7 : W7.cell? ⟨S + 2, 4, none⟩ = some v := HX7.out.cell 4; have zv7 : W7.frozen? ⟨S + 2, 4, none⟩ = false := HX7.out.frozen 4))
                  all_goals
                    clear cv zv cv5 zv5 cv7 zv7
                    have HR8 := Lib.hid (rr_setB (B := S + 2) (j := 4) HR7.out (by omega) (.slice a7 (xs.length + 1) c7))
                    have HK8 := Lib.hid (HK7.out.set ⟨S + 2, 4, none⟩ (Or.inr (Or.inr rfl)) (.slice a7 (xs.length + 1) c7))
                    have HX8 := Lib.hid (show BoxN _ _ #[.string ⟨x1.toArray⟩, .slice na x2.length nc, .slice ga gs.length gc, .slice sa x4.length sc, .slice a7 (xs.length + 1) c7, .slice none 0 0, .slice none 0 0] from HX7.out.set 4 (.slice a7 (xs.length + 1) c7))
                    have HO8 := Lib.hid (own_kpS HOn.out (KP.set1 W7 (S + 2) 4 (.slice a7 (xs.length + 1) c7)) (fun q hq e => by omega))
                    obtain ⟨W8, hW8⟩ : ∃ W', W7.setCell ⟨S + 2, 4, none⟩ (.slice a7 (xs.length + 1) c7) = W' := ⟨_, rfl⟩
                    rw [hW8] at HR8 HK8 HX8 HO8 ⊢
                    clear hW8
                    go_wp2_with fail
                    go_roundw
                    case rel => exact ⟨k + 1, i, s1', _, xs ++ [⟨(p : Int), (q : Int)⟩], by go_num, by have := HJ.out; omega, Lib.hid (by rw [List.length_append, HXK.out]; rfl), HX8, HO8, HR8, HK8, Lib.hid (by rw [← HE2.out]; simp)⟩
                    case measure => simp [intOf] <;> omega
                · have he := HE.out
                  have hend : listP relP r sj = ([], sj) := by
                    rcases Nat.eq_zero_or_pos r with h0 | h0
                    · subst h0; rfl
                    · exact listP_wrong _ _ _ (fun q => hgo ⟨h0, HWR.out.symm.trans q⟩)
                  rw [hend, List.append_nil] at he
                  simp only [Prod.mk.injEq] at he
                  obtain ⟨he1, he2⟩ := he
                  subst he1
                  subst he2
                  obtain ⟨a', c', rfl, -⟩ := own_slice HO.out
                  clear hend
                  have HB := Lib.hid (below_kp HB.out HK.out (fun q hq e => by omega))
                  have HZ := Lib.hid (HZ.out.kp HK.out (by omega) (by omega))
                  have P2 := Lib.hid (P2.out.kp HK.out (Nat.le_refl _) (fun q hq e => by omega))
                  have P3 := Lib.hid (P3.out.kp HK.out (Nat.le_refl _) (fun q hq e => by omega))
                  have P3b := Lib.hid (fun g hg => (P3b.out g hg).kp HK.out (Nat.le_refl _) (fun q hq _ e => by omega))
                  have P4 := Lib.hid (P4.out.kp HK.out (Nat.le_refl _) (fun q hq e => by omega))
                  have P5 := Lib.hid (rdIn_of_own (B' := S + 3) HO.out (by omega))
                  by_cases hj0 : 0 < r
                  · have hw0 : ¬ wr1 = 0 := fun q => hgo ⟨hj0, q⟩
                    have ej0 : (k : Int) < (n5 : Int) := by omega
                    clear hj
                    go_wp2_with fail
                    go_meet
                    case rel => exact ⟨a', c', HB, HR, HX, HZ, P2, P3c, P3, P3b, P4, P5⟩
                  · have ej0 : ¬ (k : Int) < (n5 : Int) := by omega
                    clear hj
                    go_wp2_with fail
                    go_meet
                    case rel => exact ⟨a', c', HB, HR, HX, HZ, P2, P3c, P3, P3b, P4, P5⟩
            case rest =>
              clear HB HR HX HZ P2 P3c P3 P3b P4 hVS
              obtain ⟨ra, rc, HB, HR, HX, HZ, P2, P3c, P3, P3b, P4, P5⟩ := hcut
              go_wp2_with fail
              refine (HC6.out _ HR.out).mono ?_; rintro e V6 ⟨⟨ia, ic, rfl, hown⟩, hrd, hkp⟩
              have hVS : S + 2 < wc.heap.size := HX.out.lt
              have HX := Lib.hid (step_box HX.out hkp (by omega))
              have HZ := Lib.hid (step_box HZ.out hkp (by omega))
              have HB := Lib.hid (below_kp HB.out hkp (fun q hq e => by omega))
              have HR := Lib.hid hrd
              have P2 := Lib.hid (P2.out.kp hkp (Nat.le_refl _) (fun q hq e => by omega))
              have P3 := Lib.hid (P3.out.kp hkp (Nat.le_refl _) (fun q hq e => by omega))
              have P3b := Lib.hid (fun g hg => (P3b.out g hg).kp hkp (Nat.le_refl _) (fun q hq _ e => by omega))
              have P4 := Lib.hid (P4.out.kp hkp (Nat.le_refl _) (fun q hq e => by omega))
              have P5 := Lib.hid (P5.out.kp hkp (Nat.le_refl _) (fun q hq e => by omega))
              have P6 := Lib.hid (rdIn_of_own (B' := S + 3) hown (by omega))
              clear hrd hkp hown hVS
              have tc : V6.cell? ⟨S + 2, 5, none⟩ = some (.slice none 0 0) := HX.out.cell 5
              have tz : V6.frozen? ⟨S + 2, 5, none⟩ = false := HX.out.frozen 5
              go_upto_region 34 with fail
              have HR := Lib.hid (rr_setB (B := S + 2) (j := 5) HR.out (by omega) (.slice ia x6.length ic))
              have HB := Lib.hid (below_set (B := S + 2) (j := 5) HB.out (by omega) (.slice ia x6.length ic))
              have HZ := Lib.hid (step_box HZ.out (KP.set1 V6 (S + 2) 5 (.slice ia x6.length ic)) (by omega))
              have HX := Lib.hid (show BoxN _ _ #[.string ⟨x1.toArray⟩, .slice na x2.length nc, .slice ga gs.length gc, .slice sa x4.length sc, .slice ra x5.length rc, .slice ia x6.length ic, .slice none 0 0] from HX.out.set 5 (.slice ia x6.length ic))
              have P2 := Lib.hid (P2.out.kp (KP.set1 V6 (S + 2) 5 (.slice ia x6.length ic)) (Nat.le_refl _) (fun q hq e => by omega))
              have P3 := Lib.hid (P3.out.kp (KP.set1 V6 (S + 2) 5 (.slice ia x6.length ic)) (Nat.le_refl _) (fun q hq e => by omega))
              have P3b := Lib.hid (fun g hg => (P3b.out g hg).kp (KP.set1 V6 (S + 2) 5 (.slice ia x6.length ic)) (Nat.le_refl _) (fun q hq _ e => by omega))
              have P4 := Lib.hid (P4.out.kp (KP.set1 V6 (S + 2) 5 (.slice ia x6.length ic)) (Nat.le_refl _) (fun q hq e => by omega))
              have P5 := Lib.hid (P5.out.kp (KP.set1 V6 (S + 2) 5 (.slice ia x6.length ic)) (Nat.le_refl _) (fun q hq e => by omega))
              have P6 := Lib.hid (P6.out.kp (KP.set1 V6 (S + 2) 5 (.slice ia x6.length ic)) (Nat.le_refl _) (fun q hq e => by omega))
              obtain ⟨U6, hU6⟩ : ∃ W', V6.setCell ⟨S + 2, 5, none⟩ (.slice ia x6.length ic) = W' := ⟨_, rfl⟩
              rw [hU6] at HR HB HZ HX P2 P3 P3b P4 P5 P6 ⊢
              clear hU6 tc tz
              go_wp2_with fail
              refine (HC7.out _ HR.out).mono ?_; rintro e V7 ⟨⟨fa, fc, rfl, hown⟩, hrd, hkp⟩
              have hVS : S + 2 < U6.heap.size := HX.out.lt
              have HX := Lib.hid (step_box HX.out hkp (by omega))
              have HZ := Lib.hid (step_box HZ.out hkp (by omega))
              have HB := Lib.hid (below_kp HB.out hkp (fun q hq e => by omega))
              have HR := Lib.hid hrd
              have P2 := Lib.hid (P2.out.kp hkp (Nat.le_refl _) (fun q hq e => by omega))
              have P3 := Lib.hid (P3.out.kp hkp (Nat.le_refl _) (fun q hq e => by omega))
              have P3b := Lib.hid (fun g hg => (P3b.out g hg).kp hkp (Nat.le_refl _) (fun q hq _ e => by omega))
              have P4 := Lib.hid (P4.out.kp hkp (Nat.le_refl _) (fun q hq e => by omega))
              have P5 := Lib.hid (P5.out.kp hkp (Nat.le_refl _) (fun q hq e => by omega))
              have P6 := Lib.hid (P6.out.kp hkp (Nat.le_refl _) (fun q hq e => by omega))
              have P7 := Lib.hid (rdIn_of_own (B' := S + 3) hown (by omega))
              clear hrd hkp hown hVS
              have tc : V7.cell? ⟨S + 2, 6, none⟩ = some (.slice none 0 0) := HX.out.cell 6
              have tz : V7.frozen? ⟨S + 2, 6, none⟩ = false := HX.out.frozen 6
              go_upto_region 35 with fail
              have HR := Lib.hid (rr_setB (B := S + 2) (j := 6) HR.out (by omega) (.slice fa x7.length fc))
              have HB := Lib.hid (below_set (B := S + 2) (j := 6) HB.out (by omega) (.slice fa x7.length fc))
              have HZ := Lib.hid (step_box HZ.out (KP.set1 V7 (S + 2) 6 (.slice fa x7.length fc)) (by omega))
              have HX := Lib.hid (show BoxN _ _ #[.string ⟨x1.toArray⟩, .slice na x2.length nc, .slice ga gs.length gc, .slice sa x4.length sc, .slice ra x5.length rc, .slice ia x6.length ic, .slice fa x7.length fc] from HX.out.set 6 (.slice fa x7.length fc))
              have P2 := Lib.hid (P2.out.kp (KP.set1 V7 (S + 2) 6 (.slice fa x7.length fc)) (Nat.le_refl _) (fun q hq e => by omega))
              have P3 := Lib.hid (P3.out.kp (KP.set1 V7 (S + 2) 6 (.slice fa x7.length fc)) (Nat.le_refl _) (fun q hq e => by omega))
              have P3b := Lib.hid (fun g hg => (P3b.out g hg).kp (KP.set1 V7 (S + 2) 6 (.slice fa x7.length fc)) (Nat.le_refl _) (fun q hq _ e => by omega))
              have P4 := Lib.hid (P4.out.kp (KP.set1 V7 (S + 2) 6 (.slice fa x7.length fc)) (Nat.le_refl _) (fun q hq e => by omega))
              have P5 := Lib.hid (P5.out.kp (KP.set1 V7 (S + 2) 6 (.slice fa x7.length fc)) (Nat.le_refl _) (fun q hq e => by omega))
              have P6 := Lib.hid (P6.out.kp (KP.set1 V7 (S + 2) 6 (.slice fa x7.length fc)) (Nat.le_refl _) (fun q hq e => by omega))
              have P7 := Lib.hid (P7.out.kp (KP.set1 V7 (S + 2) 6 (.slice fa x7.length fc)) (Nat.le_refl _) (fun q hq e => by omega))
              obtain ⟨U7, hU7⟩ : ∃ W', V7.setCell ⟨S + 2, 6, none⟩ (.slice fa x7.length fc) = W' := ⟨_, rfl⟩
              rw [hU7] at HR HB HZ HX P2 P3 P3b P4 P5 P6 P7 ⊢
              clear hU7 tc tz
              obtain ⟨sr, e7⟩ := s7
              obtain ⟨kk, hk0, hk1, ra_, rc_, hbx, -, -⟩ := HR.out.box
              obtain ⟨mr, hmr⟩ : ∃ x, sr.length = x := ⟨_, rfl⟩
              have hkm : kk + mr = m := by
                have h1 := congrArg List.length hk1
                rw [List.length_drop, HM.out] at h1
                simp only [] at h1
                rw [HM.out] at hk0
                omega
              have r1 : U7.cell? ⟨S + 1, 1, none⟩ = some (.int .i64 (kk : Int)) := hbx.cell 1
              have r2_ : U7.cell? ⟨S + 1, 2, none⟩ = some (.int .i64 e7) := hbx.cell 2
              have HRX := Lib.hid hbx
              have HP := Lib.hid (show parseR (⟨x1, x2, x3, x4, x5, x6, x7⟩, ⟨sr, e7⟩) = (pc, pe) from HP1.out (by trivial))
              have hpr : (if (if e7 = 0 ∧ 0 < mr then (102 : Int) else e7) = 0 then (if checkC ⟨x1, x2, x3, x4, x5, x6, x7⟩ = 0 then ((⟨x1, x2, x3, x4, x5, x6, x7⟩ : Core), (0 : Int)) else (emptyC, checkC ⟨x1, x2, x3, x4, x5, x6, x7⟩)) else (emptyC, if e7 = 0 ∧ 0 < mr then (102 : Int) else e7)) = (pc, pe) := by
                have h0 := HP.out
                unfold parseR wrongP at h0
                simp only [] at h0
                rw [hmr] at h0
                exact h0
              have HPR := Lib.hid hpr
              clear hbx hk1 hpr hmr HP HP1
              by_cases hE : e7 = 0
              · subst hE
                by_cases hT : 0 < mr
                · have hp := HPR.out
                  rw [if_pos (show (0 : Int) = 0 ∧ 0 < mr from ⟨rfl, hT⟩), if_neg (by decide)] at hp
                  simp only [Prod.mk.injEq] at hp
                  obtain ⟨hp1, hp2⟩ := hp
                  subst hp1
                  subst hp2
                  have hkm3 : (kk : Int) < (m : Int) := by omega
                  have c0 : U7.cell? ⟨S, 0, none⟩ = some (.string ⟨#[]⟩) := HZ.out.cell 0
                  have z0 : U7.frozen? ⟨S, 0, none⟩ = false := HZ.out.frozen 0
                  have c1 : U7.cell? ⟨S, 1, none⟩ = some (.slice none 0 0) := HZ.out.cell 1
                  have z1 : U7.frozen? ⟨S, 1, none⟩ = false := HZ.out.frozen 1
                  have c2 : U7.cell? ⟨S, 2, none⟩ = some (.slice none 0 0) := HZ.out.cell 2
                  have z2 : U7.frozen? ⟨S, 2, none⟩ = false := HZ.out.frozen 2
                  have c3 : U7.cell? ⟨S, 3, none⟩ = some (.slice none 0 0) := HZ.out.cell 3
                  have z3 : U7.frozen? ⟨S, 3, none⟩ = false := HZ.out.frozen 3
                  have c4 : U7.cell? ⟨S, 4, none⟩ = some (.slice none 0 0) := HZ.out.cell 4
                  have z4 : U7.frozen? ⟨S, 4, none⟩ = false := HZ.out.frozen 4
                  have c5 : U7.cell? ⟨S, 5, none⟩ = some (.slice none 0 0) := HZ.out.cell 5
                  have z5 : U7.frozen? ⟨S, 5, none⟩ = false := HZ.out.frozen 5
                  have c6 : U7.cell? ⟨S, 6, none⟩ = some (.slice none 0 0) := HZ.out.cell 6
                  have z6 : U7.frozen? ⟨S, 6, none⟩ = false := HZ.out.frozen 6
                  go_wp2_with fail
                  have hbx : BoxN (((((((U7.setCell ⟨S, 0, none⟩ (.string ⟨#[]⟩)).setCell ⟨S, 1, none⟩ (.slice none 0 0)).setCell ⟨S, 2, none⟩ (.slice none 0 0)).setCell ⟨S, 3, none⟩ (.slice none 0 0)).setCell ⟨S, 4, none⟩ (.slice none 0 0)).setCell ⟨S, 5, none⟩ (.slice none 0 0)).setCell ⟨S, 6, none⟩ (.slice none 0 0)) S #[.string ⟨#[]⟩, .slice none 0 0, .slice none 0 0, .slice none 0 0, .slice none 0 0, .slice none 0 0, .slice none 0 0] := (((((((HZ.out.set 0 (.string ⟨#[]⟩)).set 1 (.slice none 0 0)).set 2 (.slice none 0 0)).set 3 (.slice none 0 0)).set 4 (.slice none 0 0)).set 5 (.slice none 0 0)).set 6 (.slice none 0 0))
                  have HBF := Lib.hid (show Below w.heap.size w (((((((U7.setCell ⟨S, 0, none⟩ (.string ⟨#[]⟩)).setCell ⟨S, 1, none⟩ (.slice none 0 0)).setCell ⟨S, 2, none⟩ (.slice none 0 0)).setCell ⟨S, 3, none⟩ (.slice none 0 0)).setCell ⟨S, 4, none⟩ (.slice none 0 0)).setCell ⟨S, 5, none⟩ (.slice none 0 0)).setCell ⟨S, 6, none⟩ (.slice none 0 0)) from (below_set (below_set (below_set (below_set (below_set (below_set (below_set HB.out hSl (.string ⟨#[]⟩)) hSl (.slice none 0 0)) hSl (.slice none 0 0)) hSl (.slice none 0 0)) hSl (.slice none 0 0)) hSl (.slice none 0 0)) hSl (.slice none 0 0)))
                  obtain ⟨WF, hWF⟩ : ∃ W', (((((((U7.setCell ⟨S, 0, none⟩ (.string ⟨#[]⟩)).setCell ⟨S, 1, none⟩ (.slice none 0 0)).setCell ⟨S, 2, none⟩ (.slice none 0 0)).setCell ⟨S, 3, none⟩ (.slice none 0 0)).setCell ⟨S, 4, none⟩ (.slice none 0 0)).setCell ⟨S, 5, none⟩ (.slice none 0 0)).setCell ⟨S, 6, none⟩ (.slice none 0 0)) = W' := ⟨_, rfl⟩
                  rw [hWF] at hbx HBF ⊢
                  clear hWF
                  have q0 : WF.cell? ⟨S, 0, none⟩ = some (.string ⟨#[]⟩) := hbx.cell 0
                  have q1 : WF.cell? ⟨S, 1, none⟩ = some (.slice none 0 0) := hbx.cell 1
                  have q2 : WF.cell? ⟨S, 2, none⟩ = some (.slice none 0 0) := hbx.cell 2
                  have q3 : WF.cell? ⟨S, 3, none⟩ = some (.slice none 0 0) := hbx.cell 3
                  have q4 : WF.cell? ⟨S, 4, none⟩ = some (.slice none 0 0) := hbx.cell 4
                  have q5 : WF.cell? ⟨S, 5, none⟩ = some (.slice none 0 0) := hbx.cell 5
                  have q6 : WF.cell? ⟨S, 6, none⟩ = some (.slice none 0 0) := hbx.cell 6
                  refine bodyPost_ret (v := .tuple #[.agg #[.string ⟨#[]⟩, .slice none 0 0, .slice none 0 0, .slice none 0 0, .slice none 0 0, .slice none 0 0, .slice none 0 0], .int .i64 102]) ?_ rfl ⟨emptyO, rfl, HBF.out, empty_rd _, empty_fit, rfl⟩
                  simp [results, Try.results9, go_sem, q0, q1, q2, q3, q4, q5, q6]
                · have hkm3 : ¬ (kk : Int) < (m : Int) := by omega
                  obtain ⟨o, ho⟩ : ∃ o : Ob, (⟨x1, x2, gs, x4, x5, x6, x7, na, nc, ga, gc, sa, sc, ra, rc, ia, ic, fa, fc⟩ : Ob) = o := ⟨_, rfl⟩
                  have hcore : coreO o = ⟨x1, x2, x3, x4, x5, x6, x7⟩ := by rw [← ho]; unfold coreO; simp only [P3c.out]
                  have HRO : Hid (RdOb U7 o) := Lib.hid (by
                    rw [← ho]
                    exact ⟨by simpa using P2.out.1, P3.out.1, fun g hg => (P3b.out g hg).1, P4.out.1, P5.out.1, by simpa using P6.out.1, by simpa using P7.out.1⟩)
                  have HFO := Lib.hid (HFIT.out (by trivial) o hcore)
                  have hck := check_core o
                  rw [hcore] at hck
                  have HCK := Lib.hid (rcheck_any o U7 HRO.out HFO.out)
                  rw [hck] at HCK
                  have hp := HPR.out
                  rw [if_neg (show ¬ ((0 : Int) = 0 ∧ 0 < mr) from fun q => hT q.2), if_pos rfl] at hp
                  obtain ⟨ck, hckk⟩ : ∃ ck, checkC ⟨x1, x2, x3, x4, x5, x6, x7⟩ = ck := ⟨_, rfl⟩
                  rw [hckk] at HCK hp
                  have hoc : (objC o).toArray = #[.string ⟨x1.toArray⟩, .slice na x2.length nc, .slice ga gs.length gc, .slice sa x4.length sc, .slice ra x5.length rc, .slice ia x6.length ic, .slice fa x7.length fc] := by rw [← ho]; rfl
                  rw [hoc] at HCK
                  have HP := Lib.hid hp
                  have HCORE := Lib.hid hcore
                  have HOC := Lib.hid hoc
                  have HO_ := Lib.hid ho
                  clear hck hckk hp hcore hoc ho
                  have y0_ : U7.cell? ⟨S + 2, 0, none⟩ = some (.string ⟨x1.toArray⟩) := HX.out.cell 0
                  have y1_ : U7.cell? ⟨S + 2, 1, none⟩ = some (.slice na x2.length nc) := HX.out.cell 1
                  have y2_ : U7.cell? ⟨S + 2, 2, none⟩ = some (.slice ga gs.length gc) := HX.out.cell 2
                  have y3_ : U7.cell? ⟨S + 2, 3, none⟩ = some (.slice sa x4.length sc) := HX.out.cell 3
                  have y4_ : U7.cell? ⟨S + 2, 4, none⟩ = some (.slice ra x5.length rc) := HX.out.cell 4
                  have y5_ : U7.cell? ⟨S + 2, 5, none⟩ = some (.slice ia x6.length ic) := HX.out.cell 5
                  have y6_ : U7.cell? ⟨S + 2, 6, none⟩ = some (.slice fa x7.length fc) := HX.out.cell 6
                  go_wp2_with fail
                  refine HCK.out.mono ?_; rintro e V8 ⟨rfl, hb'⟩
                  have hSl2 : S < U7.heap.size := HZ.out.lt
                  have hSl3 : S + 2 < U7.heap.size := HX.out.lt
                  have HZ := Lib.hid (HZ.out.below hb' hSl2)
                  have HX := Lib.hid (HX.out.below hb' hSl3)
                  have HB := Lib.hid (bTrans HB.out hb')
                  have HKO : Hid (∀ W', KP V8.heap.size (· = S) V8 W' → RdOb W' o) := Lib.hid (fun W' hk => by
                    have hi : ∀ (q : Nat), S + 3 ≤ q → ¬ q = S := fun q h e => by omega
                    have k8 : KP U7.heap.size (· = S) U7 W' := ((KP.refl U7.heap.size (· = S) U7).below hb' (Nat.le_refl _)).trans (hk.mono hb'.size (fun _ _ q => q))
                    rw [← HO_.out]
                    exact ⟨by simpa using (P2.out.kp k8 (Nat.le_refl _) hi).1, (P3.out.kp k8 (Nat.le_refl _) hi).1, fun g hg => ((P3b.out g hg).kp k8 (Nat.le_refl _) (fun q h1 _ e => by have h2 : q = S := e; omega)).1, (P4.out.kp k8 (Nat.le_refl _) hi).1, (P5.out.kp k8 (Nat.le_refl _) hi).1, by simpa using (P6.out.kp k8 (Nat.le_refl _) hi).1, by simpa using (P7.out.kp k8 (Nat.le_refl _) hi).1⟩)
                  clear hb' r1 r2_ y0_ y1_ y2_ y3_ y4_ y5_ y6_
                  by_cases hck0 : ck = 0
                  · subst hck0
                    have hp := HP.out
                    rw [if_pos rfl] at hp
                    simp only [Prod.mk.injEq] at hp
                    obtain ⟨hp1, hp2⟩ := hp
                    subst hp1
                    subst hp2
                    have y0_ : V8.cell? ⟨S + 2, 0, none⟩ = some (.string ⟨x1.toArray⟩) := HX.out.cell 0
                    have y1_ : V8.cell? ⟨S + 2, 1, none⟩ = some (.slice na x2.length nc) := HX.out.cell 1
                    have y2_ : V8.cell? ⟨S + 2, 2, none⟩ = some (.slice ga gs.length gc) := HX.out.cell 2
                    have y3_ : V8.cell? ⟨S + 2, 3, none⟩ = some (.slice sa x4.length sc) := HX.out.cell 3
                    have y4_ : V8.cell? ⟨S + 2, 4, none⟩ = some (.slice ra x5.length rc) := HX.out.cell 4
                    have y5_ : V8.cell? ⟨S + 2, 5, none⟩ = some (.slice ia x6.length ic) := HX.out.cell 5
                    have y6_ : V8.cell? ⟨S + 2, 6, none⟩ = some (.slice fa x7.length fc) := HX.out.cell 6
                    have c0 : V8.cell? ⟨S, 0, none⟩ = some (.string ⟨#[]⟩) := HZ.out.cell 0
                    have z0 : V8.frozen? ⟨S, 0, none⟩ = false := HZ.out.frozen 0
                    have c1 : V8.cell? ⟨S, 1, none⟩ = some (.slice none 0 0) := HZ.out.cell 1
                    have z1 : V8.frozen? ⟨S, 1, none⟩ = false := HZ.out.frozen 1
                    have c2 : V8.cell? ⟨S, 2, none⟩ = some (.slice none 0 0) := HZ.out.cell 2
                    have z2 : V8.frozen? ⟨S, 2, none⟩ = false := HZ.out.frozen 2
                    have c3 : V8.cell? ⟨S, 3, none⟩ = some (.slice none 0 0) := HZ.out.cell 3
                    have z3 : V8.frozen? ⟨S, 3, none⟩ = false := HZ.out.frozen 3
                    have c4 : V8.cell? ⟨S, 4, none⟩ = some (.slice none 0 0) := HZ.out.cell 4
                    have z4 : V8.frozen? ⟨S, 4, none⟩ = false := HZ.out.frozen 4
                    have c5 : V8.cell? ⟨S, 5, none⟩ = some (.slice none 0 0) := HZ.out.cell 5
                    have z5 : V8.frozen? ⟨S, 5, none⟩ = false := HZ.out.frozen 5
                    have c6 : V8.cell? ⟨S, 6, none⟩ = some (.slice none 0 0) := HZ.out.cell 6
                    have z6 : V8.frozen? ⟨S, 6, none⟩ = false := HZ.out.frozen 6
                    go_wp2_with fail
                    have hbx : BoxN (((((((V8.setCell ⟨S, 0, none⟩ (.string ⟨x1.toArray⟩)).setCell ⟨S, 1, none⟩ (.slice na x2.length nc)).setCell ⟨S, 2, none⟩ (.slice ga gs.length gc)).setCell ⟨S, 3, none⟩ (.slice sa x4.length sc)).setCell ⟨S, 4, none⟩ (.slice ra x5.length rc)).setCell ⟨S, 5, none⟩ (.slice ia x6.length ic)).setCell ⟨S, 6, none⟩ (.slice fa x7.length fc)) S #[.string ⟨x1.toArray⟩, .slice na x2.length nc, .slice ga gs.length gc, .slice sa x4.length sc, .slice ra x5.length rc, .slice ia x6.length ic, .slice fa x7.length fc] := (((((((HZ.out.set 0 (.string ⟨x1.toArray⟩)).set 1 (.slice na x2.length nc)).set 2 (.slice ga gs.length gc)).set 3 (.slice sa x4.length sc)).set 4 (.slice ra x5.length rc)).set 5 (.slice ia x6.length ic)).set 6 (.slice fa x7.length fc))
                    have HBF := Lib.hid (show Below w.heap.size w (((((((V8.setCell ⟨S, 0, none⟩ (.string ⟨x1.toArray⟩)).setCell ⟨S, 1, none⟩ (.slice na x2.length nc)).setCell ⟨S, 2, none⟩ (.slice ga gs.length gc)).setCell ⟨S, 3, none⟩ (.slice sa x4.length sc)).setCell ⟨S, 4, none⟩ (.slice ra x5.length rc)).setCell ⟨S, 5, none⟩ (.slice ia x6.length ic)).setCell ⟨S, 6, none⟩ (.slice fa x7.length fc)) from (below_set (below_set (below_set (below_set (below_set (below_set (below_set HB.out hSl (.string ⟨x1.toArray⟩)) hSl (.slice na x2.length nc)) hSl (.slice ga gs.length gc)) hSl (.slice sa x4.length sc)) hSl (.slice ra x5.length rc)) hSl (.slice ia x6.length ic)) hSl (.slice fa x7.length fc)))
                    have HRF := Lib.hid (HKO.out _ (KP.set (KP.set (KP.set (KP.set (KP.set (KP.set (KP.set (KP.refl V8.heap.size (· = S) V8) ⟨S, 0, none⟩ (Or.inr rfl) (.string ⟨x1.toArray⟩)) ⟨S, 1, none⟩ (Or.inr rfl) (.slice na x2.length nc)) ⟨S, 2, none⟩ (Or.inr rfl) (.slice ga gs.length gc)) ⟨S, 3, none⟩ (Or.inr rfl) (.slice sa x4.length sc)) ⟨S, 4, none⟩ (Or.inr rfl) (.slice ra x5.length rc)) ⟨S, 5, none⟩ (Or.inr rfl) (.slice ia x6.length ic)) ⟨S, 6, none⟩ (Or.inr rfl) (.slice fa x7.length fc)))
                    obtain ⟨WF, hWF⟩ : ∃ W', (((((((V8.setCell ⟨S, 0, none⟩ (.string ⟨x1.toArray⟩)).setCell ⟨S, 1, none⟩ (.slice na x2.length nc)).setCell ⟨S, 2, none⟩ (.slice ga gs.length gc)).setCell ⟨S, 3, none⟩ (.slice sa x4.length sc)).setCell ⟨S, 4, none⟩ (.slice ra x5.length rc)).setCell ⟨S, 5, none⟩ (.slice ia x6.length ic)).setCell ⟨S, 6, none⟩ (.slice fa x7.length fc)) = W' := ⟨_, rfl⟩
                    rw [hWF] at hbx HBF HRF ⊢
                    clear hWF
                    have q0 : WF.cell? ⟨S, 0, none⟩ = some (.string ⟨x1.toArray⟩) := hbx.cell 0
                    have q1 : WF.cell? ⟨S, 1, none⟩ = some (.slice na x2.length nc) := hbx.cell 1
                    have q2 : WF.cell? ⟨S, 2, none⟩ = some (.slice ga gs.length gc) := hbx.cell 2
                    have q3 : WF.cell? ⟨S, 3, none⟩ = some (.slice sa x4.length sc) := hbx.cell 3
                    have q4 : WF.cell? ⟨S, 4, none⟩ = some (.slice ra x5.length rc) := hbx.cell 4
                    have q5 : WF.cell? ⟨S, 5, none⟩ = some (.slice ia x6.length ic) := hbx.cell 5
                    have q6 : WF.cell? ⟨S, 6, none⟩ = some (.slice fa x7.length fc) := hbx.cell 6
                    refine bodyPost_ret (v := .tuple #[.agg #[.string ⟨x1.toArray⟩, .slice na x2.length nc, .slice ga gs.length gc, .slice sa x4.length sc, .slice ra x5.length rc, .slice ia x6.length ic, .slice fa x7.length fc], .int .i64 0]) ?_ rfl ⟨o, by rw [HOC.out], HBF.out, HRF.out, HFO.out, HCORE.out⟩
                    simp [results, Try.results9, go_sem, q0, q1, q2, q3, q4, q5, q6]
                  · have hp := HP.out
                    rw [if_neg hck0] at hp
                    simp only [Prod.mk.injEq] at hp
                    obtain ⟨hp1, hp2⟩ := hp
                    subst hp1
                    subst hp2
                    have c0 : V8.cell? ⟨S, 0, none⟩ = some (.string ⟨#[]⟩) := HZ.out.cell 0
                    have z0 : V8.frozen? ⟨S, 0, none⟩ = false := HZ.out.frozen 0
                    have c1 : V8.cell? ⟨S, 1, none⟩ = some (.slice none 0 0) := HZ.out.cell 1
                    have z1 : V8.frozen? ⟨S, 1, none⟩ = false := HZ.out.frozen 1
                    have c2 : V8.cell? ⟨S, 2, none⟩ = some (.slice none 0 0) := HZ.out.cell 2
                    have z2 : V8.frozen? ⟨S, 2, none⟩ = false := HZ.out.frozen 2
                    have c3 : V8.cell? ⟨S, 3, none⟩ = some (.slice none 0 0) := HZ.out.cell 3
                    have z3 : V8.frozen? ⟨S, 3, none⟩ = false := HZ.out.frozen 3
                    have c4 : V8.cell? ⟨S, 4, none⟩ = some (.slice none 0 0) := HZ.out.cell 4
                    have z4 : V8.frozen? ⟨S, 4, none⟩ = false := HZ.out.frozen 4
                    have c5 : V8.cell? ⟨S, 5, none⟩ = some (.slice none 0 0) := HZ.out.cell 5
                    have z5 : V8.frozen? ⟨S, 5, none⟩ = false := HZ.out.frozen 5
                    have c6 : V8.cell? ⟨S, 6, none⟩ = some (.slice none 0 0) := HZ.out.cell 6
                    have z6 : V8.frozen? ⟨S, 6, none⟩ = false := HZ.out.frozen 6
                    go_wp2_with fail
                    have hbx : BoxN (((((((V8.setCell ⟨S, 0, none⟩ (.string ⟨#[]⟩)).setCell ⟨S, 1, none⟩ (.slice none 0 0)).setCell ⟨S, 2, none⟩ (.slice none 0 0)).setCell ⟨S, 3, none⟩ (.slice none 0 0)).setCell ⟨S, 4, none⟩ (.slice none 0 0)).setCell ⟨S, 5, none⟩ (.slice none 0 0)).setCell ⟨S, 6, none⟩ (.slice none 0 0)) S #[.string ⟨#[]⟩, .slice none 0 0, .slice none 0 0, .slice none 0 0, .slice none 0 0, .slice none 0 0, .slice none 0 0] := (((((((HZ.out.set 0 (.string ⟨#[]⟩)).set 1 (.slice none 0 0)).set 2 (.slice none 0 0)).set 3 (.slice none 0 0)).set 4 (.slice none 0 0)).set 5 (.slice none 0 0)).set 6 (.slice none 0 0))
                    have HBF := Lib.hid (show Below w.heap.size w (((((((V8.setCell ⟨S, 0, none⟩ (.string ⟨#[]⟩)).setCell ⟨S, 1, none⟩ (.slice none 0 0)).setCell ⟨S, 2, none⟩ (.slice none 0 0)).setCell ⟨S, 3, none⟩ (.slice none 0 0)).setCell ⟨S, 4, none⟩ (.slice none 0 0)).setCell ⟨S, 5, none⟩ (.slice none 0 0)).setCell ⟨S, 6, none⟩ (.slice none 0 0)) from (below_set (below_set (below_set (below_set (below_set (below_set (below_set HB.out hSl (.string ⟨#[]⟩)) hSl (.slice none 0 0)) hSl (.slice none 0 0)) hSl (.slice none 0 0)) hSl (.slice none 0 0)) hSl (.slice none 0 0)) hSl (.slice none 0 0)))
                    obtain ⟨WF, hWF⟩ : ∃ W', (((((((V8.setCell ⟨S, 0, none⟩ (.string ⟨#[]⟩)).setCell ⟨S, 1, none⟩ (.slice none 0 0)).setCell ⟨S, 2, none⟩ (.slice none 0 0)).setCell ⟨S, 3, none⟩ (.slice none 0 0)).setCell ⟨S, 4, none⟩ (.slice none 0 0)).setCell ⟨S, 5, none⟩ (.slice none 0 0)).setCell ⟨S, 6, none⟩ (.slice none 0 0)) = W' := ⟨_, rfl⟩
                    rw [hWF] at hbx HBF ⊢
                    clear hWF
                    have q0 : WF.cell? ⟨S, 0, none⟩ = some (.string ⟨#[]⟩) := hbx.cell 0
                    have q1 : WF.cell? ⟨S, 1, none⟩ = some (.slice none 0 0) := hbx.cell 1
                    have q2 : WF.cell? ⟨S, 2, none⟩ = some (.slice none 0 0) := hbx.cell 2
                    have q3 : WF.cell? ⟨S, 3, none⟩ = some (.slice none 0 0) := hbx.cell 3
                    have q4 : WF.cell? ⟨S, 4, none⟩ = some (.slice none 0 0) := hbx.cell 4
                    have q5 : WF.cell? ⟨S, 5, none⟩ = some (.slice none 0 0) := hbx.cell 5
                    have q6 : WF.cell? ⟨S, 6, none⟩ = some (.slice none 0 0) := hbx.cell 6
                    refine bodyPost_ret (v := .tuple #[.agg #[.string ⟨#[]⟩, .slice none 0 0, .slice none 0 0, .slice none 0 0, .slice none 0 0, .slice none 0 0, .slice none 0 0], .int .i64 ck]) ?_ rfl ⟨emptyO, rfl, HBF.out, empty_rd _, empty_fit, rfl⟩
                    simp [results, Try.results9, go_sem, q0, q1, q2, q3, q4, q5, q6]
              · have hp := HPR.out
                rw [if_neg (show ¬ (e7 = 0 ∧ 0 < mr) from fun q => hE q.1), if_neg hE] at hp
                simp only [Prod.mk.injEq] at hp
                obtain ⟨hp1, hp2⟩ := hp
                subst hp1
                subst hp2
                go_upto_region 36 with fail
                have c0 : U7.cell? ⟨S, 0, none⟩ = some (.string ⟨#[]⟩) := HZ.out.cell 0
                have z0 : U7.frozen? ⟨S, 0, none⟩ = false := HZ.out.frozen 0
                have c1 : U7.cell? ⟨S, 1, none⟩ = some (.slice none 0 0) := HZ.out.cell 1
                have z1 : U7.frozen? ⟨S, 1, none⟩ = false := HZ.out.frozen 1
                have c2 : U7.cell? ⟨S, 2, none⟩ = some (.slice none 0 0) := HZ.out.cell 2
                have z2 : U7.frozen? ⟨S, 2, none⟩ = false := HZ.out.frozen 2
                have c3 : U7.cell? ⟨S, 3, none⟩ = some (.slice none 0 0) := HZ.out.cell 3
                have z3 : U7.frozen? ⟨S, 3, none⟩ = false := HZ.out.frozen 3
                have c4 : U7.cell? ⟨S, 4, none⟩ = some (.slice none 0 0) := HZ.out.cell 4
                have z4 : U7.frozen? ⟨S, 4, none⟩ = false := HZ.out.frozen 4
                have c5 : U7.cell? ⟨S, 5, none⟩ = some (.slice none 0 0) := HZ.out.cell 5
                have z5 : U7.frozen? ⟨S, 5, none⟩ = false := HZ.out.frozen 5
                have c6 : U7.cell? ⟨S, 6, none⟩ = some (.slice none 0 0) := HZ.out.cell 6
                have z6 : U7.frozen? ⟨S, 6, none⟩ = false := HZ.out.frozen 6
                go_region_law (fail)
                all_goals
                  go_wp2_with fail
                  have hbx0 : BoxN (((((((U7.setCell ⟨S, 0, none⟩ (.string ⟨#[]⟩)).setCell ⟨S, 1, none⟩ (.slice none 0 0)).setCell ⟨S, 2, none⟩ (.slice none 0 0)).setCell ⟨S, 3, none⟩ (.slice none 0 0)).setCell ⟨S, 4, none⟩ (.slice none 0 0)).setCell ⟨S, 5, none⟩ (.slice none 0 0)).setCell ⟨S, 6, none⟩ (.slice none 0 0)) S #[.string ⟨#[]⟩, .slice none 0 0, .slice none 0 0, .slice none 0 0, .slice none 0 0, .slice none 0 0, .slice none 0 0] := (((((((HZ.out.set 0 (.string ⟨#[]⟩)).set 1 (.slice none 0 0)).set 2 (.slice none 0 0)).set 3 (.slice none 0 0)).set 4 (.slice none 0 0)).set 5 (.slice none 0 0)).set 6 (.slice none 0 0))
                  have hbx := boxN_drew hbx0
                  clear hbx0
                  have HBF := Lib.hid (show Below w.heap.size w (((((((U7.setCell ⟨S, 0, none⟩ (.string ⟨#[]⟩)).setCell ⟨S, 1, none⟩ (.slice none 0 0)).setCell ⟨S, 2, none⟩ (.slice none 0 0)).setCell ⟨S, 3, none⟩ (.slice none 0 0)).setCell ⟨S, 4, none⟩ (.slice none 0 0)).setCell ⟨S, 5, none⟩ (.slice none 0 0)).setCell ⟨S, 6, none⟩ (.slice none 0 0)).drew from below_drew (below_set (below_set (below_set (below_set (below_set (below_set (below_set HB.out hSl (.string ⟨#[]⟩)) hSl (.slice none 0 0)) hSl (.slice none 0 0)) hSl (.slice none 0 0)) hSl (.slice none 0 0)) hSl (.slice none 0 0)) hSl (.slice none 0 0)))
                  obtain ⟨WF, hWF⟩ : ∃ W', (((((((U7.setCell ⟨S, 0, none⟩ (.string ⟨#[]⟩)).setCell ⟨S, 1, none⟩ (.slice none 0 0)).setCell ⟨S, 2, none⟩ (.slice none 0 0)).setCell ⟨S, 3, none⟩ (.slice none 0 0)).setCell ⟨S, 4, none⟩ (.slice none 0 0)).setCell ⟨S, 5, none⟩ (.slice none 0 0)).setCell ⟨S, 6, none⟩ (.slice none 0 0)).drew = W' := ⟨_, rfl⟩
                  rw [hWF] at hbx HBF ⊢
                  clear hWF
                  have q0 : WF.cell? ⟨S, 0, none⟩ = some (.string ⟨#[]⟩) := hbx.cell 0
                  have q1 : WF.cell? ⟨S, 1, none⟩ = some (.slice none 0 0) := hbx.cell 1
                  have q2 : WF.cell? ⟨S, 2, none⟩ = some (.slice none 0 0) := hbx.cell 2
                  have q3 : WF.cell? ⟨S, 3, none⟩ = some (.slice none 0 0) := hbx.cell 3
                  have q4 : WF.cell? ⟨S, 4, none⟩ = some (.slice none 0 0) := hbx.cell 4
                  have q5 : WF.cell? ⟨S, 5, none⟩ = some (.slice none 0 0) := hbx.cell 5
                  have q6 : WF.cell? ⟨S, 6, none⟩ = some (.slice none 0 0) := hbx.cell 6
                  refine bodyPost_ret (v := .tuple #[.agg #[.string ⟨#[]⟩, .slice none 0 0, .slice none 0 0, .slice none 0 0, .slice none 0 0, .slice none 0 0, .slice none 0 0], .int .i64 e7]) ?_ rfl ⟨emptyO, rfl, HBF.out, empty_rd _, empty_fit, rfl⟩
                  simp [results, Try.results9, go_sem, q0, q1, q2, q3, q4, q5, q6]
end Go.Proofs.Ytknldomgmogccaa

/- In, Known, Bind: contracts. -/
import Derived.Test.YthammjpadbbflaaLkI
namespace Go.Proofs.Ythammjpadbbflaa
set_option linter.unusedVariables false
set_option linter.unusedSimpArgs false
open Go.Joins Go.ChangeShapes Go.WideShapes Go.ChangeAt Go.RowKit Go.Deep Go.Shelf

/-- what a symbol means: an object, a symbol, an error -/
def bindS (l : List Ob) (sc : List Nat) (obj sym : Int) (s : Sym) : Int × Int × Int :=
  if (s.defd && (s.bind == 1 || s.seen == 2)) = true then (obj, sym, 0)
  else if 0 ≤ (inL l s.name s.ver sc).1 then ((inL l s.name s.ver sc).1, (inL l s.name s.ver sc).2, 0)
  else if s.defd = true then (obj, sym, 0)
  else if (s.bind == 3) = true then (-1, -1, 0)
  else if (!(s.ver == []) && decide (0 ≤ (inL l s.name [] sc).1)) = true then (0, 0, 141) else (0, 0, 140)
set_option maxHeartbeats 1000000 in
theorem in_any (a b : Option Addr) (c d : Nat) (l : List Ob) (sc : List Nat) (name ver : List UInt8) (w : World) (hl : RdL w a l) (hs : Rd w b sc.length (ordV sc)) (hsc : ∀ k ∈ sc, k < l.length) (hf : FewO l) (hn : sc.length ≤ 100) (hname : name.length < 9223372036854775808) :
    Calls Try.prog 14 #[.slice a l.length c, .slice b sc.length d, .string ⟨name.toArray⟩, .string ⟨ver.toArray⟩] w fun e w' => e = .returned (.tuple #[.int .i64 (inL l name ver sc).1, .int .i64 (inL l name ver sc).2]) ∧ Below w.heap.size w w' := by
  have hm10 := hf.1
  have HO := Lib.hid (open_any a b c d l sc w hl hs hsc hn (by omega))
  have HC := Lib.hid (fun base lo W a' c' Bs (h : PlsAt base lo W a' l sc Bs) => psfind_any base lo W a' c' l sc Bs name ver h hf hn hname)
  generalize sc.length = n at *
  generalize l.length = m at *
  clear hl hs hf
  go_enter Try.func14, Try.ntmps14
  go_wp2_with fail
  refine HO.out.mono ?_; rintro e w1 ⟨a', c', Bs, rfl, hp, hb1⟩
  have HP := Lib.hid hp
  have HB1 := Lib.hid hb1
  clear hp hb1
  go_wp2_with fail
  refine (HC.out _ _ _ _ _ _ HP.out).mono ?_; rintro e w2 ⟨rfl, -, hb2⟩
  have HB2 := Lib.hid (HB1.out.trans hb2)
  clear hb2
  go_wp2_with fail
  go_ret2
  exact ⟨rfl, HB2.out⟩
set_option maxHeartbeats 1000000 in
theorem known_any (a b : Option Addr) (c d : Nat) (l : List Ob) (sc : List Nat) (name : List UInt8) (w : World) (hl : RdL w a l) (hs : Rd w b sc.length (ordV sc)) (hsc : ∀ k ∈ sc, k < l.length) (hf : FewO l) (hn : sc.length ≤ 100) (hname : name.length < 9223372036854775808) :
    Calls Try.prog 16 #[.slice a l.length c, .slice b sc.length d, .string ⟨name.toArray⟩] w fun e w' => e = .returned (.bool (decide (0 ≤ (inL l name [] sc).1))) ∧ Below w.heap.size w w' := by
  have hm10 := hf.1
  have HO := Lib.hid (open_any a b c d l sc w hl hs hsc hn (by omega))
  have HC := Lib.hid (fun base lo W a' c' Bs (h : PlsAt base lo W a' l sc Bs) => knows_any base lo W a' c' l sc Bs name h hf hn hname)
  generalize sc.length = n at *
  generalize l.length = m at *
  generalize decide (0 ≤ (inL l name [] sc).1) = q at *
  clear hl hs hf
  go_enter Try.func16, Try.ntmps16
  go_wp2_with fail
  refine HO.out.mono ?_; rintro e w1 ⟨a', c', Bs, rfl, hp, hb1⟩
  have HP := Lib.hid hp
  have HB1 := Lib.hid hb1
  clear hp hb1
  go_wp2_with fail
  refine (HC.out _ _ _ _ _ _ HP.out).mono ?_; rintro e w2 ⟨rfl, -, hb2⟩
  have HB2 := Lib.hid (HB1.out.trans hb2)
  clear hb2
  go_wp2_with fail
  go_ret
  exact ⟨rfl, HB2.out⟩
set_option maxHeartbeats 4000000 in
set_option maxRecDepth 100000 in
theorem bind_any (a b : Option Addr) (c d : Nat) (l : List Ob) (sc : List Nat) (o y : Nat) (w : World) (hl : RdL w a l) (hs : Rd w b sc.length (ordV sc)) (hsc : ∀ k ∈ sc, k < l.length) (hf : FewO l) (hn : sc.length ≤ 100) (ho : o < l.length) (hy : y < l[o].syms.length) :
    Calls Try.prog 19 #[.slice a l.length c, .slice b sc.length d, .int .i64 (o : Int), .int .i64 (y : Int)] w fun e w' => e = .returned (.tuple #[.int .i64 (bindS l sc o y l[o].syms[y]).1, .int .i64 (bindS l sc o y l[o].syms[y]).2.1, .int .i64 (bindS l sc o y l[o].syms[y]).2.2]) ∧ Below w.heap.size w w' := by
  have hm10 := hf.1
  have hnm := (hf.2 _ (List.getElem_mem ho)).2 _ (List.getElem_mem hy)
  obtain ⟨gl, fl, hgl, -, hob⟩ := hl.at_ ho
  subst hgl
  obtain ⟨sa, s2, ra, rc, x1, x2, x3, x4, x5⟩ := hob
  obtain ⟨gs, fs, hgs, -, h8⟩ := x3.at_ hy
  subst hgs
  obtain ⟨p, hp⟩ : ∃ p, l[o].syms.length = p := ⟨_, rfl⟩
  rw [hp] at x1 hy
  obtain ⟨s, hse⟩ : ∃ s, l[o].syms[y] = s := ⟨_, rfl⟩
  rw [hse] at h8 hnm ⊢
  obtain ⟨nm, vr, pl, sz, kd, bd, sn, df⟩ := s
  obtain ⟨z0, z1, z2, z3, z4, z5, z6, z7⟩ := h8
  simp only [] at z0 z1 z2 z3 z4 z5 z6 z7 hnm
  have HOP := Lib.hid (fun W (hW : Below w.heap.size w W) => open_any (some ⟨gl, fl, none⟩) b c d l sc W (hl.below hW) (hs.below hW) hsc hn (by omega))
  have HIN := Lib.hid (fun base lo W a' c' Bs (h : PlsAt base lo W a' l sc Bs) => psfind_any base lo W a' c' l sc Bs nm vr h hf hn hnm)
  have HKN := Lib.hid (fun base lo W a' c' Bs (h : PlsAt base lo W a' l sc Bs) => knows_any base lo W a' c' l sc Bs nm h hf hn hnm)
  obtain ⟨n, hn1⟩ : ∃ n, sc.length = n := ⟨_, rfl⟩
  obtain ⟨m, hm1⟩ : ∃ m, l.length = m := ⟨_, rfl⟩
  have hom : o < m := by omega
  have hyp : y < p := by omega
  rw [hn1, hm1] at HOP ⊢
  rw [hn1] at HIN HKN
  have q1 : ¬ (o : Int) < 0 := by omega
  have q2 : (o : Int) < (m : Int) := by omega
  have q3 : ¬ (y : Int) < 0 := by omega
  have q4 : (y : Int) < (p : Int) := by omega
  have q5 : (0 : Int) ≤ (o : Int) := by omega
  have q6 : (0 : Int) ≤ (y : Int) := by omega
  have hd1 : decide ((o : Int) < 0) = false := decide_eq_false q1
  have hd2 : decide ((m : Int) ≤ (o : Int)) = false := decide_eq_false (by omega)
  have hd3 : decide ((y : Int) < 0) = false := decide_eq_false q3
  have hd4 : decide ((p : Int) ≤ (y : Int)) = false := decide_eq_false (by omega)
  have hd5 : ¬ ((m : Int) ≤ (o : Int)) := by omega
  have hd6 : ¬ ((p : Int) ≤ (y : Int)) := by omega
  clear hse hp hl hs hf x2 x3 x4 x5 hn1 hm1
  go_enter Try.func19, Try.ntmps19
  cases df with
  | false =>
    go_wp2_with fail
    refine (HOP.out _ (bAlloc (Below.refl _ _) _)).mono ?_; rintro e w1 ⟨a', c', Bs, rfl, hp, hb1⟩
    have HP := Lib.hid hp
    have bx := (BoxN.new w #[.string ⟨nm.toArray⟩, .string ⟨vr.toArray⟩, .int .u64 pl, .int .u64 sz, .int .i64 kd, .int .i64 bd, .int .i64 sn, .bool false] 45).below hb1 (by simp)
    have HB1 := Lib.hid (bTrans (bAlloc (Below.refl w.heap.size w) (.cells #[.string ⟨nm.toArray⟩, .string ⟨vr.toArray⟩, .int .u64 pl, .int .u64 sz, .int .i64 kd, .int .i64 bd, .int .i64 sn, .bool false] 45)) hb1)
    have y0 : w1.cell? ⟨w.heap.size, 0, none⟩ = some (.string ⟨nm.toArray⟩) := bx.cell 0
    have y1 : w1.cell? ⟨w.heap.size, 1, none⟩ = some (.string ⟨vr.toArray⟩) := bx.cell 1
    have BX := Lib.hid bx
    have hws : w.heap.size < w1.heap.size := bx.lt
    have hbase := hb1.size
    rw [size_alloc] at hbase
    clear hp hb1 bx
    go_wp2_with fail
    refine (HIN.out _ _ _ _ _ _ HP.out).mono ?_; rintro e w2 ⟨rfl, hp2, hb2⟩
    have HP2 := Lib.hid hp2
    have BX2 := Lib.hid (BX.out.below hb2 (by rw [size_alloc]; omega))
    have HB2 := Lib.hid (HB1.out.trans (hb2.mono (by rw [size_alloc]; omega)))
    clear hp2 hb2 y0 y1
    obtain ⟨r1, r2, hr⟩ : ∃ r1 r2, inL l nm vr sc = (r1, r2) := ⟨_, _, rfl⟩
    rw [hr]
    have HR := Lib.hid hr
    clear hr
    by_cases hr0 : 0 ≤ r1
    · have hrd : decide (0 ≤ r1) = true := decide_eq_true hr0
      have HE := Lib.hid (show bindS l sc (o : Int) (y : Int) ⟨nm, vr, pl, sz, kd, bd, sn, false⟩ = (r1, r2, 0) by
        unfold bindS
        rw [if_neg (by simp), HR.out]
        exact if_pos hr0)
      go_wp2_with fail
      go_ret3
      exact ⟨by rw [HE.out]; rfl, HB2.out⟩
    · have hrd : decide (0 ≤ r1) = false := decide_eq_false hr0
      have y7 : w2.cell? ⟨w.heap.size, 7, none⟩ = some (.bool false) := BX2.out.cell 7
      have y5 : w2.cell? ⟨w.heap.size, 5, none⟩ = some (.int .i64 bd) := BX2.out.cell 5
      have y1 : w2.cell? ⟨w.heap.size, 1, none⟩ = some (.string ⟨vr.toArray⟩) := BX2.out.cell 1
      have y0 : w2.cell? ⟨w.heap.size, 0, none⟩ = some (.string ⟨nm.toArray⟩) := BX2.out.cell 0
      cases hb3 : (bd == 3) with
      | true =>
        have HE := Lib.hid (show bindS l sc (o : Int) (y : Int) ⟨nm, vr, pl, sz, kd, bd, sn, false⟩ = (-1, -1, 0) by
          unfold bindS
          rw [if_neg (by simp), HR.out]
          exact (if_neg hr0).trans ((if_neg (by simp)).trans (if_pos hb3)))
        go_wp2_with fail
        go_ret3
        exact ⟨by rw [HE.out]; rfl, HB2.out⟩
      | false =>
        cases hv : (vr == []) with
        | true =>
          have HE := Lib.hid (show bindS l sc (o : Int) (y : Int) ⟨nm, vr, pl, sz, kd, bd, sn, false⟩ = (0, 0, 140) by
            unfold bindS
            rw [if_neg (by simp), HR.out]
            exact (if_neg hr0).trans ((if_neg (by simp)).trans ((if_neg (by simp [hb3])).trans (if_neg (by simp [hv])))))
          go_wp2_with fail
          go_ret3
          exact ⟨by rw [HE.out]; rfl, HB2.out⟩
        | false =>
          obtain ⟨q, hq⟩ : ∃ q, decide (0 ≤ (inL l nm [] sc).1) = q := ⟨_, rfl⟩
          rw [hq] at HKN
          have HE := Lib.hid (show bindS l sc (o : Int) (y : Int) ⟨nm, vr, pl, sz, kd, bd, sn, false⟩ = (0, 0, if q = true then 141 else 140) by
            unfold bindS
            rw [if_neg (by simp), HR.out]
            refine (if_neg hr0).trans ((if_neg (by simp)).trans ((if_neg (by simp [hb3])).trans ?_))
            cases q with
            | true => exact if_pos (by simp only [hq, hv]; rfl)
            | false => exact if_neg (by simp only [hq, hv]; simp))
          clear hq
          go_wp2_with fail
          refine (HKN.out _ _ _ _ _ _ HP2.out).mono ?_; rintro e w3 ⟨rfl, -, hb3'⟩
          have HB3 := Lib.hid (HB2.out.trans (hb3'.mono (by rw [size_alloc]; omega)))
          clear hb3'
          cases q with
          | true =>
            go_wp2_with fail
            go_ret3
            exact ⟨by rw [HE.out]; rfl, HB3.out⟩
          | false =>
            go_wp2_with fail
            go_ret3
            exact ⟨by rw [HE.out]; rfl, HB3.out⟩
  | true =>
    cases hbd : (bd == 1) with
    | true =>
      go_wp2_with fail
      go_ret3
      exact ⟨by rw [show bindS l sc (o : Int) (y : Int) ⟨nm, vr, pl, sz, kd, bd, sn, true⟩ = ((o : Int), (y : Int), 0) from if_pos (by simp [hbd])]; rfl, bAlloc (Below.refl _ _) _⟩
    | false =>
      cases hsn : (sn == 2) with
      | true =>
        go_wp2_with fail
        go_ret3
        exact ⟨by rw [show bindS l sc (o : Int) (y : Int) ⟨nm, vr, pl, sz, kd, bd, sn, true⟩ = ((o : Int), (y : Int), 0) from if_pos (by simp [hbd, hsn])]; rfl, bAlloc (Below.refl _ _) _⟩
      | false =>
        go_wp2_with fail
        refine (HOP.out _ (bAlloc (Below.refl _ _) _)).mono ?_; rintro e w1 ⟨a', c', Bs, rfl, hp, hb1⟩
        have HP := Lib.hid hp
        have bx := (BoxN.new w #[.string ⟨nm.toArray⟩, .string ⟨vr.toArray⟩, .int .u64 pl, .int .u64 sz, .int .i64 kd, .int .i64 bd, .int .i64 sn, .bool true] 45).below hb1 (by simp)
        have HB1 := Lib.hid (bTrans (bAlloc (Below.refl w.heap.size w) (.cells #[.string ⟨nm.toArray⟩, .string ⟨vr.toArray⟩, .int .u64 pl, .int .u64 sz, .int .i64 kd, .int .i64 bd, .int .i64 sn, .bool true] 45)) hb1)
        have y0 : w1.cell? ⟨w.heap.size, 0, none⟩ = some (.string ⟨nm.toArray⟩) := bx.cell 0
        have y1 : w1.cell? ⟨w.heap.size, 1, none⟩ = some (.string ⟨vr.toArray⟩) := bx.cell 1
        have BX := Lib.hid bx
        have hws : w.heap.size < w1.heap.size := bx.lt
        have hbase := hb1.size
        rw [size_alloc] at hbase
        clear hp hb1 bx
        go_wp2_with fail
        refine (HIN.out _ _ _ _ _ _ HP.out).mono ?_; rintro e w2 ⟨rfl, hp2, hb2⟩
        have HP2 := Lib.hid hp2
        have BX2 := Lib.hid (BX.out.below hb2 (by rw [size_alloc]; omega))
        have HB2 := Lib.hid (HB1.out.trans (hb2.mono (by rw [size_alloc]; omega)))
        clear hp2 hb2 y0 y1
        obtain ⟨r1, r2, hr⟩ : ∃ r1 r2, inL l nm vr sc = (r1, r2) := ⟨_, _, rfl⟩
        rw [hr]
        have HR := Lib.hid hr
        clear hr
        by_cases hr0 : 0 ≤ r1
        · have hrd : decide (0 ≤ r1) = true := decide_eq_true hr0
          have HE := Lib.hid (show bindS l sc (o : Int) (y : Int) ⟨nm, vr, pl, sz, kd, bd, sn, true⟩ = (r1, r2, 0) by
            unfold bindS
            rw [if_neg (by simp [hbd, hsn]), HR.out]
            exact if_pos hr0)
          go_wp2_with fail
          go_ret3
          exact ⟨by rw [HE.out]; rfl, HB2.out⟩
        · have hrd : decide (0 ≤ r1) = false := decide_eq_false hr0
          have y7 : w2.cell? ⟨w.heap.size, 7, none⟩ = some (.bool true) := BX2.out.cell 7
          have y5 : w2.cell? ⟨w.heap.size, 5, none⟩ = some (.int .i64 bd) := BX2.out.cell 5
          have y1 : w2.cell? ⟨w.heap.size, 1, none⟩ = some (.string ⟨vr.toArray⟩) := BX2.out.cell 1
          have y0 : w2.cell? ⟨w.heap.size, 0, none⟩ = some (.string ⟨nm.toArray⟩) := BX2.out.cell 0
          have HE := Lib.hid (show bindS l sc (o : Int) (y : Int) ⟨nm, vr, pl, sz, kd, bd, sn, true⟩ = ((o : Int), (y : Int), 0) by
            unfold bindS
            rw [if_neg (by simp [hbd, hsn]), HR.out]
            exact (if_neg hr0).trans (if_pos rfl))
          go_wp2_with fail
          go_ret3
          exact ⟨by rw [HE.out]; rfl, HB2.out⟩
end Go.Proofs.Ythammjpadbbflaa

/- The document's Bind; Short, Right: contracts. -/
import Derived.Test.YthammjpadbbflaaLkK
namespace Go.Proofs.Ythammjpadbbflaa
set_option linter.unusedVariables false
set_option linter.unusedSimpArgs false
open Go.Joins Go.ChangeShapes Go.WideShapes Go.ChangeAt Go.RowKit Go.Deep Go.Shelf

set_option maxHeartbeats 4000000 in
set_option maxRecDepth 100000 in
theorem rbind_any (a b : Option Addr) (c d : Nat) (l : List Ob) (sc : List Nat) (o y : Nat) (w : World) (hl : RdL w a l) (hs : Rd w b sc.length (ordV sc)) (hsc : ∀ k ∈ sc, k < l.length) (hf : FewO l) (hn : sc.length ≤ 100) (ho : o < l.length) (hy : y < l[o].syms.length) :
    Calls Try.prog 20 #[.slice a l.length c, .slice b sc.length d, .int .i64 (o : Int), .int .i64 (y : Int)] w fun e w' => e = .returned (.tuple #[.int .i64 (bindS l sc o y l[o].syms[y]).1, .int .i64 (bindS l sc o y l[o].syms[y]).2.1, .int .i64 (bindS l sc o y l[o].syms[y]).2.2]) ∧ Below w.heap.size w w' := by
  have hm10 := hf.1
  have hnm := (hf.2 _ (List.getElem_mem ho)).2 _ (List.getElem_mem hy)
  obtain ⟨gl, fl, hgl, -, hob⟩ := hl.at_ ho
  subst hgl
  obtain ⟨sa, s2, ra, rc, x1, x2, x3, x4, x5⟩ := hob
  obtain ⟨gs, fs, hgs, -, h8⟩ := x3.at_ hy
  subst hgs
  obtain ⟨p, hp⟩ : ∃ p, l[o].syms.length = p := ⟨_, rfl⟩
  rw [hp] at x1 hy
  obtain ⟨s, hse⟩ : ∃ s, l[o].syms[y] = s := ⟨_, rfl⟩
  rw [hse] at h8 hnm ⊢
  obtain ⟨nm, vr, pl, sz, kd, bd, sn, df⟩ := s
  obtain ⟨z0, z1, z2, z3, z4, z5, z6, z7⟩ := h8
  simp only [] at z0 z1 z2 z3 z4 z5 z6 z7 hnm
  have HIN := Lib.hid (fun W (hW : Below w.heap.size w W) => rin_any (some ⟨gl, fl, none⟩) b c d l sc nm vr W (hl.below hW) (hs.below hW) hsc hf hn)
  have HKN := Lib.hid (fun W (hW : Below w.heap.size w W) => rknown_any (some ⟨gl, fl, none⟩) b c d l sc nm W (hl.below hW) (hs.below hW) hsc hf hn)
  obtain ⟨n, hn1⟩ : ∃ n, sc.length = n := ⟨_, rfl⟩
  obtain ⟨m, hm1⟩ : ∃ m, l.length = m := ⟨_, rfl⟩
  have hom : o < m := by omega
  have hyp : y < p := by omega
  rw [hn1, hm1] at HIN HKN ⊢
  have q1 : ¬ (o : Int) < 0 := by omega
  have q2 : (o : Int) < (m : Int) := by omega
  have q3 : ¬ (y : Int) < 0 := by omega
  have q4 : (y : Int) < (p : Int) := by omega
  have q5 : (0 : Int) ≤ (o : Int) := by omega
  have q6 : (0 : Int) ≤ (y : Int) := by omega
  have hd1 : decide ((o : Int) < 0) = false := decide_eq_false q1
  have hd2 : decide ((m : Int) ≤ (o : Int)) = false := decide_eq_false (by omega)
  have hd3 : decide ((y : Int) < 0) = false := decide_eq_false q3
  have hd4 : decide ((p : Int) ≤ (y : Int)) = false := decide_eq_false (by omega)
  have hd5 : ¬ ((m : Int) ≤ (o : Int)) := by omega
  have hd6 : ¬ ((p : Int) ≤ (y : Int)) := by omega
  clear hse hp hl hs hf x2 x3 x4 x5 hn1 hm1
  go_enter Try.func20, Try.ntmps20
  cases df with
  | false =>
    go_wp2_with fail
    refine (HIN.out _ (bAlloc (Below.refl _ _) _)).mono ?_; rintro e w2 ⟨rfl, hb2⟩
    have BX2 := Lib.hid ((BoxN.new w #[.string ⟨nm.toArray⟩, .string ⟨vr.toArray⟩, .int .u64 pl, .int .u64 sz, .int .i64 kd, .int .i64 bd, .int .i64 sn, .bool false] 45).below hb2 (by simp))
    have HB2 := Lib.hid (bTrans (bAlloc (Below.refl w.heap.size w) (.cells #[.string ⟨nm.toArray⟩, .string ⟨vr.toArray⟩, .int .u64 pl, .int .u64 sz, .int .i64 kd, .int .i64 bd, .int .i64 sn, .bool false] 45)) hb2)
    clear hb2
    obtain ⟨r1, r2, hr⟩ : ∃ r1 r2, inL l nm vr sc = (r1, r2) := ⟨_, _, rfl⟩
    rw [hr]
    have HR := Lib.hid hr
    clear hr
    by_cases hr0 : 0 ≤ r1
    · have hrd : decide (0 ≤ r1) = true := decide_eq_true hr0
      have HE := Lib.hid (show bindS l sc (o : Int) (y : Int) ⟨nm, vr, pl, sz, kd, bd, sn, false⟩ = (r1, r2, 0) by
        unfold bindS
        rw [if_neg (by simp), HR.out]
        exact if_pos hr0)
      go_wp2_with fail
      go_ret3
      exact ⟨by rw [HE.out]; rfl, HB2.out⟩
    · have hrd : decide (0 ≤ r1) = false := decide_eq_false hr0
      have y7 : w2.cell? ⟨w.heap.size, 7, none⟩ = some (.bool false) := BX2.out.cell 7
      have y5 : w2.cell? ⟨w.heap.size, 5, none⟩ = some (.int .i64 bd) := BX2.out.cell 5
      have y1 : w2.cell? ⟨w.heap.size, 1, none⟩ = some (.string ⟨vr.toArray⟩) := BX2.out.cell 1
      have y0 : w2.cell? ⟨w.heap.size, 0, none⟩ = some (.string ⟨nm.toArray⟩) := BX2.out.cell 0
      cases hb3 : (bd == 3) with
      | true =>
        have HE := Lib.hid (show bindS l sc (o : Int) (y : Int) ⟨nm, vr, pl, sz, kd, bd, sn, false⟩ = (-1, -1, 0) by
          unfold bindS
          rw [if_neg (by simp), HR.out]
          exact (if_neg hr0).trans ((if_neg (by simp)).trans (if_pos hb3)))
        go_wp2_with fail
        go_ret3
        exact ⟨by rw [HE.out]; rfl, HB2.out⟩
      | false =>
        obtain ⟨q, hq⟩ : ∃ q, decide (0 ≤ (inL l nm [] sc).1) = q := ⟨_, rfl⟩
        rw [hq] at HKN
        have HE := Lib.hid (show bindS l sc (o : Int) (y : Int) ⟨nm, vr, pl, sz, kd, bd, sn, false⟩ = (0, 0, if (!(vr == []) && q) = true then 141 else 140) by
          unfold bindS
          rw [if_neg (by simp), HR.out]
          refine (if_neg hr0).trans ((if_neg (by simp)).trans ((if_neg (by simp [hb3])).trans ?_))
          show (if (!(vr == []) && decide (0 ≤ (inL l nm [] sc).1)) = true then _ else _) = _
          rw [hq]
          split <;> rfl)
        clear hq
        go_wp2_with fail
        refine (HKN.out _ HB2.out).mono ?_; rintro e w3 ⟨rfl, hb3'⟩
        have HB3 := Lib.hid (bTrans HB2.out hb3')
        have z1' := (BX2.out.below hb3' BX2.out.lt).cell 1
        have z1' : w3.cell? ⟨w.heap.size, 1, none⟩ = some (.string ⟨vr.toArray⟩) := z1'
        clear hb3' y0 y1 y5 y7
        cases hv : (vr == []) with
        | true =>
          rw [hv] at HE
          go_wp2_with fail
          go_ret3
          exact ⟨by rw [HE.out]; rfl, HB3.out⟩
        | false =>
          rw [hv] at HE
          cases q with
          | true =>
            go_wp2_with fail
            go_ret3
            exact ⟨by rw [HE.out]; rfl, HB3.out⟩
          | false =>
            go_wp2_with fail
            go_ret3
            exact ⟨by rw [HE.out]; rfl, HB3.out⟩
  | true =>
    cases hbd : (bd == 1) with
    | true =>
      go_wp2_with fail
      go_ret3
      exact ⟨by rw [show bindS l sc (o : Int) (y : Int) ⟨nm, vr, pl, sz, kd, bd, sn, true⟩ = ((o : Int), (y : Int), 0) from if_pos (by simp [hbd])]; rfl, bAlloc (Below.refl _ _) _⟩
    | false =>
      cases hsn : (sn == 2) with
      | true =>
        go_wp2_with fail
        go_ret3
        exact ⟨by rw [show bindS l sc (o : Int) (y : Int) ⟨nm, vr, pl, sz, kd, bd, sn, true⟩ = ((o : Int), (y : Int), 0) from if_pos (by simp [hbd, hsn])]; rfl, bAlloc (Below.refl _ _) _⟩
      | false =>
        go_wp2_with fail
        refine (HIN.out _ (bAlloc (Below.refl _ _) _)).mono ?_; rintro e w2 ⟨rfl, hb2⟩
        have BX2 := Lib.hid ((BoxN.new w #[.string ⟨nm.toArray⟩, .string ⟨vr.toArray⟩, .int .u64 pl, .int .u64 sz, .int .i64 kd, .int .i64 bd, .int .i64 sn, .bool true] 45).below hb2 (by simp))
        have HB2 := Lib.hid (bTrans (bAlloc (Below.refl w.heap.size w) (.cells #[.string ⟨nm.toArray⟩, .string ⟨vr.toArray⟩, .int .u64 pl, .int .u64 sz, .int .i64 kd, .int .i64 bd, .int .i64 sn, .bool true] 45)) hb2)
        clear hb2
        obtain ⟨r1, r2, hr⟩ : ∃ r1 r2, inL l nm vr sc = (r1, r2) := ⟨_, _, rfl⟩
        rw [hr]
        have HR := Lib.hid hr
        clear hr
        by_cases hr0 : 0 ≤ r1
        · have hrd : decide (0 ≤ r1) = true := decide_eq_true hr0
          have HE := Lib.hid (show bindS l sc (o : Int) (y : Int) ⟨nm, vr, pl, sz, kd, bd, sn, true⟩ = (r1, r2, 0) by
            unfold bindS
            rw [if_neg (by simp [hbd, hsn]), HR.out]
            exact if_pos hr0)
          go_wp2_with fail
          go_ret3
          exact ⟨by rw [HE.out]; rfl, HB2.out⟩
        · have hrd : decide (0 ≤ r1) = false := decide_eq_false hr0
          have y7 : w2.cell? ⟨w.heap.size, 7, none⟩ = some (.bool true) := BX2.out.cell 7
          have y5 : w2.cell? ⟨w.heap.size, 5, none⟩ = some (.int .i64 bd) := BX2.out.cell 5
          have y1 : w2.cell? ⟨w.heap.size, 1, none⟩ = some (.string ⟨vr.toArray⟩) := BX2.out.cell 1
          have y0 : w2.cell? ⟨w.heap.size, 0, none⟩ = some (.string ⟨nm.toArray⟩) := BX2.out.cell 0
          have HE := Lib.hid (show bindS l sc (o : Int) (y : Int) ⟨nm, vr, pl, sz, kd, bd, sn, true⟩ = ((o : Int), (y : Int), 0) by
            unfold bindS
            rw [if_neg (by simp [hbd, hsn]), HR.out]
            exact (if_neg hr0).trans (if_pos rfl))
          go_wp2_with fail
          go_ret3
          exact ⟨by rw [HE.out]; rfl, HB2.out⟩
def symOk (s : Sym) : Bool := !(decide (s.bind < 1) || (decide (3 < s.bind) || (decide (s.seen < 1) || (decide (2 < s.seen) || decide ((100 : Int) < (s.name.length : Int))))))
def obOk (x : Ob) : Bool := !decide ((40 : Int) < (x.syms.length : Int)) && x.syms.all symOk
def shortB (l : List Ob) : Bool := !decide ((10 : Int) < (l.length : Int)) && l.all obOk
def rightB (z : List Int) (n : Int) : Bool := z.all (fun x => !(decide (x < 0) || decide (n ≤ x))) && decide ((z.length : Int) ≤ 40)
theorem all_drop {α : Type} (p : α → Bool) (l : List α) (k : Nat) (h : k < l.length) : (l.drop k).all p = (p l[k] && (l.drop (k + 1)).all p) := by rw [List.drop_eq_getElem_cons h, List.all_cons]
theorem all_drop_end {α : Type} (p : α → Bool) (l : List α) (k : Nat) (h : l.length ≤ k) : (l.drop k).all p = true := by rw [List.drop_eq_nil_of_le h]; rfl
set_option maxHeartbeats 1000000 in
theorem right_any (b : Option Addr) (d : Nat) (z : List Int) (n : Nat) (w : World) (hs : Rd w b z.length (i64s z)) (hm : z.length ≤ 9223372036854775807) :
    Calls Try.prog 13 #[.slice b z.length d, .int .i64 (n : Int)] w fun e w' => e = .returned (.bool (rightB z n)) ∧ w' = w := by
  have HS := Lib.hid hs
  obtain ⟨r, hr⟩ : ∃ r, rightB z n = r := ⟨_, rfl⟩
  have HR := Lib.hid (show ((z.drop 0).all (fun x => !(decide (x < 0) || decide ((n : Int) ≤ x))) && decide ((z.length : Int) ≤ 40)) = r by rw [List.drop_zero]; exact hr)
  rw [hr]
  obtain ⟨m, hm1⟩ : ∃ m, z.length = m := ⟨_, rfl⟩
  have HM := Lib.hid hm1
  rw [hm1] at HS HR hm ⊢
  clear hs hr hm1
  go_enter Try.func13, Try.ntmps13
  go_wp2_with fail
  go_loop [5] (fun i => ∃ k : Nat, i = .int .i64 k ∧ k ≤ m ∧ Hid (((z.drop k).all (fun x => !(decide (x < 0) || decide ((n : Int) ≤ x))) && decide ((m : Int) ≤ 40)) = r)) (fun i => m - (intOf i).toNat)
  case atStart => exact ⟨0, rfl, by omega, HR⟩
  case round =>
    obtain ⟨k, rfl, hk, HK⟩ := hrel
    by_cases hlt : k < m
    · have hkl : k < z.length := by rw [HM.out]; exact hlt
      obtain ⟨g, off, hge, -, hc⟩ := HS.out.at_ hlt
      subst hge
      rw [i64s_get z k hkl] at hc
      have had := all_drop (fun x => !(decide (x < 0) || decide ((n : Int) ≤ x))) z k hkl
      obtain ⟨x, hx⟩ : ∃ x, z[k] = x := ⟨_, rfl⟩
      rw [hx] at hc
      simp only [hx] at had
      have hkk := HK.out
      rw [had] at hkk
      have kk0 : (0 : Int) ≤ (k : Int) := by omega
      have kk1 : (k : Int) < (m : Int) := by omega
      clear had hx hkl HK
      cases h1 : decide (x < 0) with
      | true =>
        have he : false = r := by rw [← hkk, h1]; simp
        subst he
        clear hkk
        go_wp2_with fail
        go_ret
        exact ⟨rfl, rfl⟩
      | false =>
        cases h2 : decide ((n : Int) ≤ x) with
        | true =>
          have he : false = r := by rw [← hkk, h1, h2]; simp
          subst he
          clear hkk
          go_wp2_with fail
          go_ret
          exact ⟨rfl, rfl⟩
        | false =>
          have HK2 := Lib.hid (show ((z.drop (k + 1)).all (fun x => !(decide (x < 0) || decide ((n : Int) ≤ x))) && decide ((m : Int) ≤ 40)) = r by rw [← hkk, h1, h2]; simp)
          clear hkk
          go_wp2_with fail
          go_round
          case rel => exact ⟨k + 1, by go_num, by omega, HK2⟩
          case measure => simp [intOf]; omega
    · have he : decide ((m : Int) ≤ 40) = r := by rw [← HK.out, all_drop_end _ _ _ (by rw [HM.out]; omega)]; simp
      clear HK
      go_wp2_with fail
      go_ret
      exact ⟨by rw [← he]; rfl, rfl⟩
end Go.Proofs.Ythammjpadbbflaa

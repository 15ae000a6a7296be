/- PlanLinks: its walk. -/
import Derived.Test.YthammjpadbbflaaPlH
namespace Go.Proofs.Ythammjpadbbflaa
set_option linter.unusedVariables false
set_option linter.unusedSimpArgs false
open Go.Joins Go.ChangeShapes Go.WideShapes Go.ChangeAt Go.RowKit Go.Deep

theorem relF_len (l : List Ob) (sc : List Nat) (o : Nat) (r : List (Int × Int)) : ∀ (k : Nat) (acc : List Lnk), (relF l sc o k r acc).1.length ≤ acc.length + r.length := by
  induction r with
  | nil => intro k acc; exact Nat.le_refl _
  | cons x t ih =>
    intro k acc
    unfold relF
    split
    · refine Nat.le_trans (ih _ _) ?_
      simp; omega
    · simp
theorem linkF_len (l : List Ob) (sc : List Nat) (hr : RelsOk l) (os : List Nat) : ∀ (acc : List Lnk), (∀ k ∈ os, k < l.length) → (linkF l sc os acc).1.length ≤ acc.length + 60 * os.length := by
  induction os with
  | nil => intro acc _; exact Nat.le_refl _
  | cons o t ih =>
    intro acc ho
    have hol := ho o (List.mem_cons_self ..)
    have h1 := relF_len l sc o (relsAt l o) 0 acc
    have h2 : (relsAt l o).length ≤ 60 := by rw [relsAt_eq hol]; exact (hr _ (List.getElem_mem hol)).1
    have hu : linkF l sc (o :: t) acc = contF l sc t (relF l sc o 0 (relsAt l o) acc) := rfl
    rw [hu]
    obtain ⟨p, hp⟩ : ∃ p, relF l sc o 0 (relsAt l o) acc = p := ⟨_, rfl⟩
    rw [hp] at h1 ⊢
    obtain ⟨xs, e⟩ := p
    cases e with
    | none =>
      have h3 := ih xs (fun k hk => ho k (List.mem_cons_of_mem _ hk))
      show (linkF l sc t xs).1.length ≤ _
      simp only [List.length_cons] at h1 ⊢
      omega
    | some e =>
      show xs.length ≤ _
      simp only [List.length_cons] at h1 ⊢
      omega
theorem plan_ok {l : List Ob} {z y : List Int} (h : rightP l z y = true) : ∃ sc os : List Nat, z = sc.map (fun (k : Nat) => (k : Int)) ∧ y = os.map (fun (k : Nat) => (k : Int)) ∧ (∀ k ∈ sc, k < l.length) ∧ (∀ k ∈ os, k < l.length) ∧ FewO l ∧ RelsOk l ∧ sc.length ≤ 40 ∧ os.length ≤ 10 := by
  unfold rightP at h
  simp only [Bool.and_eq_true, decide_eq_true_eq] at h
  obtain ⟨⟨⟨⟨h1, h2⟩, h3⟩, h4⟩, h5⟩ := h
  obtain ⟨sc, k1, k2, k3⟩ := right_nat h2
  obtain ⟨os, k4, k5, k6⟩ := right_nat h3
  refine ⟨sc, os, k1, k4, k2, k5, (few_of_short h1).1, relsOk_of h4, k3, ?_⟩
  rw [k4] at h5
  simp at h5
  omega
set_option maxHeartbeats 2000000 in
set_option maxRecDepth 100000 in
theorem PlanLinks_walk (a : Option Addr) (l : List Ob) (c : Nat) (b : Option Addr) (z : List Int) (d : Nat) (g : Option Addr) (y : List Int) (f : Nat) (w : World) (hl : RdL w a l) (hm : l.length ≤ maxLen) (hs : Rd w b z.length (i64s z)) (hz : z.length ≤ maxLen) (ho : Rd w g y.length (i64s y)) (hy : y.length ≤ maxLen) :
    Calls Try.prog 8 #[.slice a l.length c, .slice b z.length d, .slice g y.length f] w fun e w' => e = .returned (.bool true) ∧ Below w.heap.size w w' := by
  unfold maxLen at hm hz hy
  have HRI := Lib.hid (fun W (hW : Below w.heap.size w W) => right15_any a b g c d f l z y W (hl.below hW) (by omega) (hs.below hW) (by omega) (ho.below hW) (by omega))
  obtain ⟨ri, hri⟩ : ∃ r, rightP l z y = r := ⟨_, rfl⟩
  rw [hri] at HRI
  have HRE := Lib.hid hri
  have HL := Lib.hid hl
  have HS := Lib.hid hs
  have HO := Lib.hid ho
  obtain ⟨m, hm1⟩ : ∃ m, l.length = m := ⟨_, rfl⟩
  obtain ⟨n, hn1⟩ : ∃ n, z.length = n := ⟨_, rfl⟩
  obtain ⟨p, hp1⟩ : ∃ p, y.length = p := ⟨_, rfl⟩
  rw [hm1] at hm HRI ⊢
  rw [hn1] at hz HRI HS ⊢
  rw [hp1] at hy HRI HO ⊢
  have HM := Lib.hid hm1
  have HN := Lib.hid hn1
  have HP := Lib.hid hp1
  clear hl hs ho hri hm1 hn1 hp1
  go_enter Try.func8, Try.ntmps8
  go_wp2_with fail
  refine (awake15_any _).mono ?_; rintro e w1 ⟨rfl, hb1⟩
  have B1 := Lib.hid hb1
  clear hb1
  go_wp2_with fail
  refine (HRI.out _ B1.out).mono ?_; rintro e w2 ⟨rfl, hb2⟩
  have B1 := Lib.hid (bTrans B1.out hb2)
  clear hb2
  cases ri with
  | false =>
    go_wp2_with fail
    go_ret
    exact ⟨rfl, B1.out⟩
  | true =>
    obtain ⟨sc, os, hz1, hy1, hsc, hoc, hfw, hrl, h40, h10⟩ := plan_ok HRE.out
    subst hz1
    subst hy1
    have hnn : sc.length = n := by have := HN.out; simpa using this
    have hpp : os.length = p := by have := HP.out; simpa using this
    have hs0 := HS.out
    have ho0 := HO.out
    rw [i64s_ord, ← hnn] at hs0
    rw [i64s_ord, ← hpp] at ho0
    have HLK := Lib.hid (fun W (hW : Below w.heap.size w W) => link_any a b g c d f l sc os W (HL.out.below hW) (hs0.below hW) (ho0.below hW) hsc hoc hfw hrl (by omega) (by omega))
    have HRL := Lib.hid (fun W (hW : Below w.heap.size w W) => rlink_any a b g c d f l sc os W (HL.out.below hW) (hs0.below hW) (ho0.below hW) hsc hoc hfw hrl (by omega) (by omega))
    have hlen := linkF_len l sc hrl os [] hoc
    obtain ⟨R, hR⟩ : ∃ R, linkF l sc os [] = R := ⟨_, rfl⟩
    rw [hR] at HLK HRL hlen
    rw [HM.out, hnn, hpp] at HLK HRL
    obtain ⟨xs, ee⟩ := R
    simp only [] at HLK HRL hlen
    obtain ⟨⟨bo, br, bt, bs⟩, hbl⟩ : ∃ x, badL ee = x := ⟨_, rfl⟩
    obtain ⟨er, her⟩ : ∃ x, errL ee = x := ⟨_, rfl⟩
    rw [hbl, her] at HLK HRL
    simp only [] at HLK HRL
    have hxl : xs.length ≤ 100000 := by simp at hlen; omega
    clear hlen hR hbl her hs0 ho0 hsc hoc hnn hpp HN HP HS HO HL HM HRE HRI hfw hrl
    obtain ⟨q, hq⟩ : ∃ q, xs.length = q := ⟨_, rfl⟩
    have HSM := Lib.hid (fun (a1 a2 : Option Addr) (c1 c2 : Nat) (W : World) (h1 : RdK W a1 xs) (h2 : RdK W a2 xs) => same_any a1 a2 q c1 c2 xs W h1 h2 hq (by omega))
    rw [hq] at HLK HRL
    clear hq hxl
    go_wp2_with fail
    refine (HLK.out _ B1.out).mono ?_; rintro e w3 ⟨a1, c1, rfl, hk1, hb3⟩
    have B3 := Lib.hid (bTrans B1.out hb3)
    have HK1 := Lib.hid hk1
    clear hb3 hk1
    go_wp2_with fail
    refine (HRL.out _ (bAlloc B3.out _)).mono ?_; rintro e w4 ⟨a2, c2, rfl, hk2, hb4⟩
    have hb34 := bTrans (bAlloc (Below.refl w3.heap.size w3) (.cells #[.int .i64 bo, .int .i64 br, .int .i64 bt, .int .i64 bs] 51)) hb4
    have bx := (BoxN.new w3 #[.int .i64 bo, .int .i64 br, .int .i64 bt, .int .i64 bs] 51).below hb4 (by simp)
    have y0 : w4.cell? ⟨w3.heap.size, 0, none⟩ = some (.int .i64 bo) := bx.cell 0
    have y1 : w4.cell? ⟨w3.heap.size, 1, none⟩ = some (.int .i64 br) := bx.cell 1
    have y2 : w4.cell? ⟨w3.heap.size, 2, none⟩ = some (.int .i64 bt) := bx.cell 2
    have y3 : w4.cell? ⟨w3.heap.size, 3, none⟩ = some (.int .i64 bs) := bx.cell 3
    have hlt := bx.lt
    have B4 := Lib.hid (bTrans B3.out hb34)
    have HK1 := Lib.hid (HK1.out.below hb34)
    have HK2 := Lib.hid hk2
    clear bx hb34 hb4 hk2
    go_wp2_with fail
    refine (HSM.out a1 a2 c1 c2 _ (HK1.out.below (bAlloc (Below.refl _ _) _)) (HK2.out.below (bAlloc (Below.refl _ _) _))).mono ?_; rintro e w5 ⟨rfl, hb5⟩
    have B5 := Lib.hid (bTrans (bAlloc B4.out (.cells #[.int .i64 bo, .int .i64 br, .int .i64 bt, .int .i64 bs] 51)) hb5)
    clear hb5
    go_wp2_with fail
    go_ret
    exact ⟨rfl, B5.out⟩
end Go.Proofs.Ythammjpadbbflaa

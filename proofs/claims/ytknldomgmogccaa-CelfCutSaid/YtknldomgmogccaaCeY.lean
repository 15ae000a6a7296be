/- CelfCut: its walk. -/
import Derived.Test.YtknldomgmogccaaCeX
import Derived.Test.YtknldomgmogccaaCeV
import Derived.Deep.Cut
namespace Go.Proofs.Ytknldomgmogccaa
set_option linter.unusedVariables false
set_option linter.unusedSimpArgs false
open Go.Joins Go.ChangeShapes Go.WideShapes Go.ChangeAt Go.RowKit Go.Deep

theorem lit_own0 (w : World) : (w.alloc (.cells #[] 5)).ownsRow w.heap.size 5 1 (.slice (some ⟨w.heap.size, 0, none⟩) 0 0) 0 [] := World.ownsRow_lit (base := w.heap.size) (e := 5) (size := 1) w #[] 0 (Nat.le_refl _) (by decide) rfl
set_option maxHeartbeats 1000000 in
set_option maxRecDepth 100000 in
theorem CelfCut_walk (a : Option Addr) (c : Nat) (b : List UInt8) (n : Int) (z : Int) (w : World) (hb : Rd w a b.length (u8v b)) (hl : b.length ≤ maxLen) (hc : b.length ≤ c) (hz : (Lit.int .u8 z).wf = true) :
    Calls Try.prog 4 #[.slice a b.length c, .int .i64 n, .int .u8 z] w fun e w' => e = .returned (.bool true) ∧ Below w.heap.size w w' := by
  obtain ⟨z0, z1⟩ := wf_u8 hz
  have hzx : ((UInt8.ofNat z.toNat).toNat : Int) = z := by rw [UInt8.toNat_ofNat_of_lt' (by show z.toNat < 256; omega), Int.toNat_of_nonneg z0]
  obtain ⟨x, hx⟩ : ∃ x, UInt8.ofNat z.toNat = x := ⟨_, rfl⟩
  rw [hx] at hzx
  have HZX := Lib.hid hzx
  obtain ⟨m, hm⟩ : ∃ m, b.length = m := ⟨_, rfl⟩
  have HM := Lib.hid hm
  have HBY := Lib.hid hb
  rw [hm] at HBY hl hc ⊢
  unfold maxLen at hl
  clear hb hm hz hx hzx
  go_enter Try.func4, Try.ntmps4
  go_wp2_with fail
  refine (awake_any _).mono ?_; rintro e W1 ⟨rfl, hb⟩
  have HB := Lib.hid hb
  clear hb
  by_cases hcond : (m ≤ 2000 ∧ 0 ≤ n) ∧ n < (m : Int)
  · obtain ⟨⟨h1, h2⟩, h3⟩ := hcond
    obtain ⟨k, rfl⟩ := Int.eq_ofNat_of_zero_le h2
    have k1 : ¬ (2000 : Int) < (m : Int) := by omega
    have k2 : ¬ (k : Int) < 0 := by omega
    have k3 : ¬ (m : Int) ≤ (k : Int) := by omega
    have k4 : (k : Int) ≤ (c : Int) := by omega
    have HP1 := Lib.hid (parse_any' a m c b W1 HM.out (HBY.out.below HB.out) hc (by omega))
    obtain ⟨e1, he1⟩ : ∃ e, (parseF b).2 = e := ⟨_, rfl⟩
    rw [he1] at HP1
    have HE1 := Lib.hid (fun (_ : True) => he1)
    clear he1
    go_wp2_with fail
    refine HP1.out.mono ?_; rintro e W2 ⟨o1, rfl, hb, -⟩
    have HB := Lib.hid (bTrans HB.out hb)
    clear hb HP1
    by_cases h0 : e1 = 0
    · subst h0
      go_upto_region 7 with fail
      have hless := parse_less (HE1.out trivial) k (by rw [HM.out]; omega)
      have hmore := parse_more (HE1.out trivial) x
      obtain ⟨V2, hV⟩ : ∃ V, W2.alloc (.cells #[.string ⟨o1.name.toArray⟩, .slice o1.na o1.needs.length o1.nc, .slice o1.ga o1.segs.length o1.gc, .slice o1.sa o1.syms.length o1.sc, .slice o1.ra o1.rels.length o1.rc, .slice o1.ia o1.init.length o1.ic, .slice o1.fa o1.fini.length o1.fc] 30) = V := ⟨_, rfl⟩
      have HB := Lib.hid (show Below w.heap.size w V2 by rw [← hV]; exact bAlloc HB.out _)
      rw [hV]
      clear hV
      have HP2 := Lib.hid (parse_any' a k c (b.take k) V2 (by rw [List.length_take, HM.out]; omega) (rd_take8 (HBY.out.below HB.out) k (by omega)) (by omega) (by omega))
      rw [hless] at HP2
      obtain ⟨f, hf⟩ : ∃ f : Int, (if k < 5 then (100 : Int) else 101) = f := ⟨_, rfl⟩
      rw [hf] at HP2
      have HF := Lib.hid hf
      have HMO := Lib.hid (fun (_ : True) => hmore)
      clear hless hf hmore HE1
      have l0 : (0 : Int) ≤ (k : Int) := by omega
      go_wp2_with fail
      refine HP2.out.mono ?_; rintro e W3 ⟨o2, rfl, hb, -⟩
      have HB := Lib.hid (bTrans HB.out hb)
      clear hb HP2
      go_upto_region 8 with fail
      obtain ⟨V3, hV⟩ : ∃ V, W3.alloc (.cells #[.string ⟨o2.name.toArray⟩, .slice o2.na o2.needs.length o2.nc, .slice o2.ga o2.segs.length o2.gc, .slice o2.sa o2.syms.length o2.sc, .slice o2.ra o2.rels.length o2.rc, .slice o2.ia o2.init.length o2.ic, .slice o2.fa o2.fini.length o2.fc] 30) = V := ⟨_, rfl⟩
      have HB := Lib.hid (show Below w.heap.size w V3 by rw [← hV]; exact bAlloc HB.out _)
      rw [hV]
      clear hV
      have HR3 := Lib.hid (HBY.out.below HB.out)
      go_wp2_with (first
        | (at_builtin; refine wpList_appE 22 5 (.int .u8 0) 1 1 Try.underlying22 infoU8' rfl (by decide) (by decide) _ rfl _ _ rfl V3.heap.size (.slice (some ⟨V3.heap.size, 0, none⟩) 0 0) 0 [] rfl (lit_own0 V3) a m c (u8v b) rfl (by rw [Nat.mul_one]; exact HR3.out.below (bAlloc (Below.refl _ _) _)) (u8v_one b) (by omega) (by rw [size_alloc]; omega) ?_; intro a4 c4 W4 hown4 hgrow4 hat4; rw [Nat.zero_add, List.nil_append] at hown4; have HO4 := Lib.hid hown4; have HB4 := Lib.hid (grownB (w := V3) (bAlloc (Below.refl V3.heap.size V3) _) hgrow4 (fun q e => by cases e; exact Nat.le_refl _)); clear hown4 hgrow4 hat4)
        | (at_builtin; refine wpList_appE 22 5 (.int .u8 0) 1 1 Try.underlying22 infoU8' rfl (by decide) (by decide) _ rfl _ _ rfl V3.heap.size (.slice a4 m c4) m (u8v b) rfl (HO4.out.alloc _) (some ⟨W4.heap.size, 0, none⟩) 1 1 [.int .u8 z] rfl (Rd.lit W4 #[.int .u8 z] 5 (by show 1 ≤ maxLen; decide)) (fun u hu => by simp at hu; subst hu; rfl) (by omega) (by rw [size_alloc]; have := HB4.out.size; omega) ?_; intro a5 c5 W5 hown5 hgrow5 hat5; have HB5 := Lib.hid (grownB (w := V3) (bAlloc HB4.out _) hgrow5 (fun q e => (HO4.out.lt q e).1)); have HO5 := Lib.hid hown5; clear hown5 hgrow5 hat5))
      have hxs : u8v b ++ [.int .u8 z] = u8v (b ++ [x]) := by rw [← HZX.out]; simp [u8v]
      have hown5 := HO5.out
      rw [hxs] at hown5
      have HP3 := Lib.hid (parse_any' a5 (m + 1) c5 (b ++ [x]) W5 (by rw [List.length_append, HM.out]; rfl) (rd_own1 hown5) (own_cap hown5) (by omega))
      rw [HMO.out trivial] at HP3
      have HB := Lib.hid (bTrans HB.out HB5.out)
      clear hown5 hxs HO5 HB5 HO4 HB4
      refine HP3.out.mono ?_; rintro e W6 ⟨o3, rfl, hb, -⟩
      have HB := Lib.hid (bTrans HB.out hb)
      clear hb HP3
      by_cases h5 : k < 5
      · have hf := HF.out
        rw [if_pos h5] at hf
        subst hf
        have k5 : (k : Int) < 5 := by omega
        go_wp2_with fail
        go_ret
        exact ⟨rfl, bAlloc HB.out _⟩
      · have hf := HF.out
        rw [if_neg h5] at hf
        subst hf
        go_wp2_with fail
        go_ret
        exact ⟨rfl, bAlloc HB.out _⟩
    · have hn0 : (e1 != 0) = true := bne_iff_ne.2 h0
      go_wp2_with fail
      go_ret
      exact ⟨rfl, bAlloc HB.out _⟩
  · go_wp2_with fail
    all_goals first
      | (exfalso; omega)
      | (go_ret; exact ⟨rfl, HB.out⟩)
end Go.Proofs.Ytknldomgmogccaa

/- Capabilities' texts as plain lists: two texts that are alike come of one capability. -/
import Derived.Test.YtoijhhacgafblaaDoorCapY
namespace Go.Proofs.YtoijhhacgafblaaDoor
set_option linter.unusedVariables false
set_option linter.unusedSimpArgs false
open Go Go.RowKit Go.ChangeAt

theorem dig_mem (u : Nat) : ∀ d ∈ Lib.decDigits u, 48 ≤ d.toNat ∧ d.toNat ≤ 57 := by
  induction u using Nat.strongRecOn with
  | _ u ih =>
    intro d hd
    rw [Lib.decDigits] at hd
    split at hd
    · rename_i h
      simp only [List.mem_singleton] at hd
      subst hd
      rw [UInt8.toNat_ofNat']; omega
    · rename_i h
      rcases List.mem_append.1 hd with hd | hd
      · exact ih (u / 10) (by omega) d hd
      · simp only [List.mem_singleton] at hd
        subst hd
        rw [UInt8.toNat_ofNat']; omega
theorem dig_not (u : Nat) (s : UInt8) (h : s.toNat < 48 ∨ 57 < s.toNat) : s ∉ Lib.decDigits u := fun hm => by
  have := dig_mem u s hm; omega
def valD (l : List UInt8) : Nat := l.foldl (fun a d => a * 10 + (d.toNat - 48)) 0
theorem val_dec (u : Nat) : valD (Lib.decDigits u) = u := by
  induction u using Nat.strongRecOn with
  | _ u ih =>
    rw [Lib.decDigits]
    split
    · rename_i h
      simp only [valD, List.foldl_cons, List.foldl_nil]
      rw [UInt8.toNat_ofNat']; omega
    · rename_i h
      have := ih (u / 10) (by omega)
      unfold valD at this ⊢
      rw [List.foldl_append, this]
      simp only [List.foldl_cons, List.foldl_nil]
      rw [UInt8.toNat_ofNat']; omega
theorem dec_inj {u v : Nat} (h : Lib.decDigits u = Lib.decDigits v) : u = v := by
  have := congrArg valD h
  rwa [val_dec, val_dec] at this
theorem split_at {s : UInt8} : ∀ {l1 l2 r1 r2 : List UInt8}, s ∉ l1 → s ∉ l2 → l1 ++ s :: r1 = l2 ++ s :: r2 → l1 = l2 ∧ r1 = r2
  | [], [], r1, r2, _, _, h => ⟨rfl, by simpa using h⟩
  | [], y :: l2, r1, r2, _, h2, h => by
    simp only [List.nil_append, List.cons_append, List.cons.injEq] at h
    exact absurd (by rw [h.1]; exact List.mem_cons_self) h2
  | x :: l1, [], r1, r2, h1, _, h => by
    simp only [List.nil_append, List.cons_append, List.cons.injEq] at h
    exact absurd (by rw [← h.1]; exact List.mem_cons_self) h1
  | x :: l1, y :: l2, r1, r2, h1, h2, h => by
    simp only [List.cons_append, List.cons.injEq] at h
    obtain ⟨e, f⟩ := split_at (fun m => h1 (List.mem_cons_of_mem _ m)) (fun m => h2 (List.mem_cons_of_mem _ m)) h.2
    exact ⟨by rw [h.1, e], f⟩
theorem pre_inj {g g' : Bool} {b t a b' t' a' : Nat} {r r' : List UInt8}
    (h : ((if g then 43 else 45) :: (Lib.decDigits b ++ 46 :: 46 :: (Lib.decDigits t ++ 64 :: (Lib.decDigits a ++ 58 :: r))) : List UInt8) = (if g' then 43 else 45) :: (Lib.decDigits b' ++ 46 :: 46 :: (Lib.decDigits t' ++ 64 :: (Lib.decDigits a' ++ 58 :: r')))) :
    g = g' ∧ b = b' ∧ t = t' ∧ a = a' ∧ r = r' := by
  simp only [List.cons.injEq] at h
  obtain ⟨hg, h⟩ := h
  obtain ⟨e1, h⟩ := split_at (dig_not _ _ (by decide)) (dig_not _ _ (by decide)) h
  simp only [List.cons.injEq, true_and] at h
  obtain ⟨e2, h⟩ := split_at (dig_not _ _ (by decide)) (dig_not _ _ (by decide)) h
  obtain ⟨e3, h⟩ := split_at (dig_not _ _ (by decide)) (dig_not _ _ (by decide)) h
  refine ⟨?_, dec_inj e1, dec_inj e2, dec_inj e3, h⟩
  cases g <;> cases g' <;> simp at hg ⊢

def capText (c : CapV) : List UInt8 := if 0 ≤ c.ty then textS c.tag c.base.toNat c.top.toNat c.at_.toNat c.perms.toNat c.ty.toNat else textT c.tag c.base.toNat c.top.toNat c.at_.toNat c.perms.toNat
theorem capText_inj {c d : CapV} (hc : rightC c = true) (hd : rightC d = true) (c0 : 0 ≤ c.base) (c1 : 0 ≤ c.top) (c2 : 0 ≤ c.at_) (d0 : 0 ≤ d.base) (d1 : 0 ≤ d.top) (d2 : 0 ≤ d.at_) (h : capText c = capText d) : c = d := by
  simp only [rightC, Bool.and_eq_true, decide_eq_true_eq] at hc hd
  obtain ⟨cb, ct, ca, cp, cy, cg⟩ := c
  obtain ⟨db, dt, da, dp, dy, dg⟩ := d
  simp only at *
  unfold capText textS textT at h
  by_cases hy : 0 ≤ cy <;> by_cases hz : 0 ≤ dy
  · simp only [hy, hz, if_true] at h
    obtain ⟨e0, e1, e2, e3, h⟩ := pre_inj h
    obtain ⟨e4, h⟩ := split_at (dig_not _ _ (by decide)) (dig_not _ _ (by decide)) h
    have e4 := dec_inj e4
    have e5 := dec_inj h
    simp only [CapV.mk.injEq]
    exact ⟨by omega, by omega, by omega, by omega, by omega, e0⟩
  · simp only [hy, hz, if_true, if_false] at h
    obtain ⟨e0, e1, e2, e3, h⟩ := pre_inj h
    exact absurd (show (33 : UInt8) ∈ Lib.decDigits dp.toNat by rw [← h]; simp) (dig_not _ _ (by decide))
  · simp only [hy, hz, if_true, if_false] at h
    obtain ⟨e0, e1, e2, e3, h⟩ := pre_inj h
    exact absurd (show (33 : UInt8) ∈ Lib.decDigits cp.toNat by rw [h]; simp) (dig_not _ _ (by decide))
  · simp only [hy, hz, if_false] at h
    obtain ⟨e0, e1, e2, e3, h⟩ := pre_inj h
    have e4 := dec_inj h
    simp only [CapV.mk.injEq]
    exact ⟨by omega, by omega, by omega, by omega, by omega, e0⟩

/-- the program's text, whatever the capability -/
theorem text_all (cb ct ca cp cy : Int) (cg : Bool) (w : World) (htab : Tab w.heap.size w) (h : rightC (⟨cb, ct, ca, cp, cy, cg⟩ : CapV) = true) (b0 : 0 ≤ cb) (b1 : cb < 18446744073709551616) (t0 : 0 ≤ ct) (t1 : ct < 18446744073709551616) (a0 : 0 ≤ ca) (a1 : ca < 18446744073709551616) :
    Calls Tryd.prog 31 #[.agg #[.int .u64 cb, .int .u64 ct, .int .u64 ca, .int .i64 cp, .int .i64 cy, .bool cg]] w fun e w' => e = .returned (.string ⟨(capText (⟨cb, ct, ca, cp, cy, cg⟩ : CapV)).toArray⟩) ∧ Below w.heap.size w w' := by
  simp only [rightC, Bool.and_eq_true, decide_eq_true_eq] at h
  obtain ⟨b, rfl⟩ := Int.eq_ofNat_of_zero_le b0
  obtain ⟨t, rfl⟩ := Int.eq_ofNat_of_zero_le t0
  obtain ⟨a, rfl⟩ := Int.eq_ofNat_of_zero_le a0
  obtain ⟨p, rfl⟩ := Int.eq_ofNat_of_zero_le h.1
  unfold capText
  simp only
  by_cases hy : 0 ≤ cy
  · obtain ⟨y, rfl⟩ := Int.eq_ofNat_of_zero_le hy
    rw [if_pos hy]
    simp only [Int.toNat_natCast]
    exact text_seal b t a p y cg w htab (by omega) (by omega) (by omega) (by omega) (by omega)
  · rw [if_neg hy]
    simp only [Int.toNat_natCast]
    exact text_any b t a p cy cg w htab (by omega) (by omega) (by omega) (by omega) (by omega)
/-- the document's text, whatever the capability -/
theorem rtext_all (cb ct ca cp cy : Int) (cg : Bool) (w : World) (h : rightC (⟨cb, ct, ca, cp, cy, cg⟩ : CapV) = true) (b0 : 0 ≤ cb) (b1 : cb < 18446744073709551616) (t0 : 0 ≤ ct) (t1 : ct < 18446744073709551616) (a0 : 0 ≤ ca) (a1 : ca < 18446744073709551616) :
    Calls Tryd.prog 34 #[.agg #[.int .u64 cb, .int .u64 ct, .int .u64 ca, .int .i64 cp, .int .i64 cy, .bool cg]] w fun e w' => e = .returned (.string ⟨(capText (⟨cb, ct, ca, cp, cy, cg⟩ : CapV)).toArray⟩) ∧ Below w.heap.size w w' := by
  simp only [rightC, Bool.and_eq_true, decide_eq_true_eq] at h
  obtain ⟨b, rfl⟩ := Int.eq_ofNat_of_zero_le b0
  obtain ⟨t, rfl⟩ := Int.eq_ofNat_of_zero_le t0
  obtain ⟨a, rfl⟩ := Int.eq_ofNat_of_zero_le a0
  obtain ⟨p, rfl⟩ := Int.eq_ofNat_of_zero_le h.1
  unfold capText
  simp only
  by_cases hy : 0 ≤ cy
  · obtain ⟨y, rfl⟩ := Int.eq_ofNat_of_zero_le hy
    rw [if_pos hy]
    simp only [Int.toNat_natCast]
    cases cg
    · exact rtext_sf b t a p y w (by omega) (by omega) (by omega) (by omega) (by omega)
    · exact rtext_st b t a p y w (by omega) (by omega) (by omega) (by omega) (by omega)
  · rw [if_neg hy]
    simp only [Int.toNat_natCast]
    cases cg
    · exact rtext_tf b t a p cy w (by omega) (by omega) (by omega) (by omega) (by omega)
    · exact rtext_tt b t a p cy w (by omega) (by omega) (by omega) (by omega) (by omega)
end Go.Proofs.YtoijhhacgafblaaDoor

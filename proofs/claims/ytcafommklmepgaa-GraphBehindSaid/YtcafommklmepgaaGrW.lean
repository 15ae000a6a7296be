/- GraphCloses: its walk. -/
import Derived.Test.YtcafommklmepgaaGrV
namespace Go.Proofs.Ytcafommklmepgaa
set_option linter.unusedVariables false
set_option linter.unusedSimpArgs false
open Go.Joins Go.ChangeShapes Go.WideShapes Go.ChangeAt Go.RowKit

def RM (l : List Obj) (z : Int) (k : Nat) : Prop := ∃ s : Nat, z = (s : Int) ∧ s < l.length ∧ RE l s k
def RZ (w : World) (l : List Obj) (z : Int) (e : Ending) (w' : World) : Prop :=
  ∃ a' c' o, e = .returned (.slice a' o.length c') ∧ Rd w' a' o.length (i64s (ordZ o)) ∧ o.Pairwise (· < ·) ∧ (∀ k, k ∈ o ↔ RM l z k) ∧ Below w.heap.size w w'
theorem rm_none {l : List Obj} {z : Int} (h : z < 0 ∨ (l.length : Int) ≤ z) (k : Nat) : k ∈ ([] : List Nat) ↔ RM l z k :=
  ⟨fun hk => absurd hk (by simp), fun ⟨s, h1, h2, _⟩ => by omega⟩
theorem rm_some {l : List Obj} {s : Nat} (h : s < l.length) (k : Nat) : RE l s k ↔ RM l (s : Int) k := by
  constructor
  · exact fun hk => ⟨s, rfl, h, hk⟩
  · rintro ⟨s', h1, _, h3⟩
    obtain rfl : s = s' := by omega
    exact h3
theorem rz_none {l : List Obj} {z : Int} {w w' : World} {c : Nat} (h : z < 0 ∨ (l.length : Int) ≤ z) (hb : Below w.heap.size w w') : RZ w l z (.returned (.slice none 0 0)) w' :=
  ⟨none, 0, [], rfl, Rd.nil _ _, List.Pairwise.nil, rm_none h, hb⟩
theorem reachZ (a : Option Addr) (l : List Obj) (c : Nat) (z : Int) (w : World) (hl : RdO w a l) (hm : l.length ≤ 1000000) (hnm : Named l) :
    Calls Try.prog 12 #[.slice a l.length c, .int .i64 z] w (RZ w l z) := by
  by_cases h0 : z < 0
  · have H := Lib.hid (rz_none (l := l) (w := w) (w' := w) (c := c) (Or.inl h0) (Below.refl _ _))
    clear hl hnm
    generalize l.length = m at *
    go_enter Try.func12, Try.ntmps12
    go_wp2_with fail
    go_ret
    exact H.out
  · by_cases h1 : (l.length : Int) ≤ z
    · have H := Lib.hid (rz_none (l := l) (w := w) (w' := w) (c := c) (Or.inr h1) (Below.refl _ _))
      clear hl hnm
      generalize l.length = m at *
      go_enter Try.func12, Try.ntmps12
      go_wp2_with fail
      go_ret
      exact H.out
    · obtain ⟨s, rfl⟩ : ∃ s : Nat, z = (s : Int) := ⟨z.toNat, by omega⟩
      have hs : s < l.length := by omega
      refine (reach_any a l c s w hl hm hnm hs).mono ?_
      rintro e w' ⟨a', c', o, rfl, hr, hO, hmem, hsort, hb⟩
      exact ⟨a', c', o, rfl, hr, rising_of hO hsort, fun k => (hmem k).trans (rm_some hs k), hb⟩
theorem rreachZ (a : Option Addr) (l : List Obj) (c : Nat) (z : Int) (w : World) (hl : RdO w a l) (hm : l.length ≤ 1000000) (hnm : Named l) :
    Calls Try.prog 15 #[.slice a l.length c, .int .i64 z] w (RZ w l z) := by
  by_cases h0 : z < 0
  · have H := Lib.hid (rz_none (l := l) (w := w) (w' := w) (c := c) (Or.inl h0) (Below.refl _ _))
    clear hl hnm
    generalize l.length = m at *
    go_enter Try.func15, Try.ntmps15
    go_wp2_with fail
    go_ret
    exact H.out
  · by_cases h1 : (l.length : Int) ≤ z
    · have H := Lib.hid (rz_none (l := l) (w := w) (w' := w) (c := c) (Or.inr h1) (Below.refl _ _))
      clear hl hnm
      generalize l.length = m at *
      go_enter Try.func15, Try.ntmps15
      go_wp2_with fail
      go_ret
      exact H.out
    · obtain ⟨s, rfl⟩ : ∃ s : Nat, z = (s : Int) := ⟨z.toNat, by omega⟩
      have hs : s < l.length := by omega
      refine (rreach_any a l c s w hl hm hnm hs).mono ?_
      rintro e w' ⟨a', c', o, rfl, hr, hO, hmem, hb⟩
      exact ⟨a', c', o, rfl, hr, hO, fun k => (hmem k).trans (rm_some hs k), hb⟩
set_option maxHeartbeats 1000000 in
theorem closes_no (a : Option Addr) (l : List Obj) (c : Nat) (root : List UInt8) (z : Int) (w : World) (hl : RdO w a l) (hnd : ∀ o ∈ l, o.needs.length ≤ maxLen) (hm : l.length ≤ maxLen) (h : shortB l 20 = false) :
    Calls Try.prog 3 #[.slice a l.length c, .string ⟨root.toArray⟩, .int .i64 z] w fun e w' => e = .returned (.bool true) ∧ Below w.heap.size w w' := by
  have HL := Lib.hid hl
  have HSH := Lib.hid (fun W (hW : RdO W a l) => short_any a l c 20 W hW hm (by omega) hnd)
  rw [h] at HSH
  clear hl hnd hm h
  obtain ⟨m, hlm⟩ : ∃ m, l.length = m := ⟨_, rfl⟩
  rw [hlm] at HSH ⊢
  clear hlm
  go_enter Try.func3, Try.ntmps3
  go_wp2_with fail
  refine (awake_any _).mono ?_; rintro e w1 ⟨rfl, hb1⟩
  have B1 := Lib.hid hb1
  clear hb1
  go_wp2_with fail
  refine (HSH.out _ (HL.out.below B1.out)).mono ?_; rintro e w2 ⟨rfl, rfl⟩
  go_wp2_with fail
  go_ret
  exact ⟨rfl, B1.out⟩
/-- what Closure leaves, as one slice, one text, one number -/
theorem clos_same {w w' w2 w2' : World} {l : List Obj} {root : List UInt8} {e e2 : Ending} (h : ClosPost w l root e w') (h2 : ClosPost w2 l root e2 w2') :
    ∃ a c a2 c2 o n x, e = .returned (.tuple #[.slice a o.length c, .string ⟨n⟩, .int .i64 x]) ∧ e2 = .returned (.tuple #[.slice a2 o.length c2, .string ⟨n⟩, .int .i64 x]) ∧ Rd w' a o.length (i64s (ordZ o)) ∧ Rd w2' a2 o.length (i64s (ordZ o)) := by
  obtain ⟨-, h⟩ := h
  obtain ⟨-, h2⟩ := h2
  cases hcr : closR l root with
  | inl o =>
    rw [hcr] at h h2
    obtain ⟨a, c, rfl, hr⟩ := h
    obtain ⟨a2, c2, rfl, hr2⟩ := h2
    exact ⟨a, c, a2, c2, o, _, _, rfl, rfl, hr, hr2⟩
  | inr n =>
    rw [hcr] at h h2
    exact ⟨none, 0, none, 0, [], _, _, h, h2, Rd.nil _ _, Rd.nil _ _⟩
theorem clos_len {w w' : World} {l : List Obj} {root : List UInt8} {e : Ending} (h : ClosPost w l root e w') : ∃ a c o n x, e = .returned (.tuple #[.slice a o.length c, .string ⟨n⟩, .int .i64 x]) ∧ Rd w' a o.length (i64s (ordZ o)) ∧ (o = [] ∨ closR l root = .inl o) := by
  obtain ⟨-, h⟩ := h
  cases hcr : closR l root with
  | inl o =>
    rw [hcr] at h
    obtain ⟨a, c, rfl, hr⟩ := h
    exact ⟨a, c, o, _, _, rfl, hr, Or.inr rfl⟩
  | inr n =>
    rw [hcr] at h
    exact ⟨none, 0, [], _, _, h, Rd.nil _ _, Or.inl rfl⟩
def closO (l : List Obj) (root : List UInt8) : List Nat := match closR l root with
  | .inl o => o
  | .inr _ => []
def closN (l : List Obj) (root : List UInt8) : List UInt8 := match closR l root with
  | .inl _ => []
  | .inr n => n
def closE (l : List Obj) (root : List UInt8) : Int := match closR l root with
  | .inl _ => 0
  | .inr _ => 130
theorem clos_vals {w w' : World} {l : List Obj} {root : List UInt8} {e : Ending} (h : ClosPost w l root e w') : ∃ a c, e = .returned (.tuple #[.slice a (closO l root).length c, .string ⟨(closN l root).toArray⟩, .int .i64 (closE l root)]) ∧ Rd w' a (closO l root).length (i64s (ordZ (closO l root))) ∧ Below w.heap.size w w' := by
  obtain ⟨hb, h⟩ := h
  unfold closO closN closE
  cases hcr : closR l root with
  | inl o =>
    rw [hcr] at h
    obtain ⟨a, c, rfl, hr⟩ := h
    exact ⟨a, c, rfl, hr, hb⟩
  | inr n =>
    rw [hcr] at h
    exact ⟨none, 0, h, Rd.nil _ _, hb⟩
theorem closO_le (l : List Obj) (root : List UInt8) : (closO l root).length ≤ l.length := by
  unfold closO
  cases hcr : closR l root with
  | inl o =>
    obtain ⟨s, -, -, hO, -⟩ := closR_RE hcr
    exact hO.le
  | inr n => exact Nat.zero_le _
set_option maxRecDepth 100000 in
set_option maxHeartbeats 4000000 in
theorem closes_yes (a : Option Addr) (l : List Obj) (c : Nat) (root : List UInt8) (z : Int) (w : World) (hl : RdO w a l) (hs : shortB l 20 = true) (hnm : Named l) (hm : l.length ≤ 20) (hroot : root.length ≤ maxLen) :
    Calls Try.prog 3 #[.slice a l.length c, .string ⟨root.toArray⟩, .int .i64 z] w fun e w' => e = .returned (.bool true) ∧ Below w.heap.size w w' := by
  have HL := Lib.hid hl
  have HSH := Lib.hid (fun W (hW : RdO W a l) => short_any a l c 20 W hW (by unfold maxLen; omega) (by omega) (fun o ho => by have := (hnm o ho).2.1; unfold maxLen; omega))
  have HCL := Lib.hid (fun W (hW : RdO W a l) => closure_any a l c root W hW (by omega) hnm hroot)
  have HRC := Lib.hid (fun W (hW : RdO W a l) => rclosure_any a l c root W hW (by omega) hnm)
  have HRE := Lib.hid (fun W (hW : RdO W a l) => reachZ a l c z W hW (by omega) hnm)
  have HRR := Lib.hid (fun W (hW : RdO W a l) => rreachZ a l c z W hW (by omega) hnm)
  have HFI := Lib.hid (fun W (hW : RdO W a l) => find_any a l c root W hW (by omega))
  have HRF := Lib.hid (fun W (hW : RdO W a l) => rfind_any a l c root W hW (by omega))
  have hcl := closO_le l root
  rw [hs] at HSH
  clear hl hnm hs
  obtain ⟨m, hlm⟩ : ∃ m, l.length = m := ⟨_, rfl⟩
  rw [hlm] at hm hcl HSH HCL HRC HRE HRR HFI HRF ⊢
  have HLM := Lib.hid hlm
  clear hlm
  obtain ⟨fz, hfz⟩ : ∃ fz, findO l root = fz := ⟨_, rfl⟩
  rw [hfz] at HFI HRF
  clear hfz
  go_enter Try.func3, Try.ntmps3
  go_wp2_with fail
  refine (awake_any _).mono ?_; rintro e w1 ⟨rfl, hb1⟩
  have B1 := Lib.hid hb1
  clear hb1
  go_wp2_with fail
  refine (HSH.out _ (HL.out.below B1.out)).mono ?_; rintro e w2 ⟨rfl, rfl⟩
  go_wp2_with fail
  refine (HCL.out _ (HL.out.below B1.out)).mono ?_; rintro e w2 hp2
  obtain ⟨a2, c2, rfl, hr2, hb2⟩ := clos_vals hp2
  have B2 := Lib.hid (bTrans B1.out hb2)
  have R2 := Lib.hid hr2
  clear hp2 hr2 hb2 B1
  go_wp2_with fail
  refine (HRC.out _ (HL.out.below B2.out)).mono ?_; rintro e w3 hp3
  obtain ⟨a3, c3, rfl, hr3, hb3⟩ := clos_vals hp3
  have B3 := Lib.hid (bTrans B2.out hb3)
  have R3 := Lib.hid hr3
  have R2 := Lib.hid (R2.out.below hb3)
  clear hp3 hr3 hb3 B2
  generalize closO l root = co at *
  generalize closN l root = cn at *
  generalize closE l root = ce at *
  obtain ⟨q, hq⟩ : ∃ q, co.length = q := ⟨_, rfl⟩
  rw [hq] at hcl R2 R3 ⊢
  clear hq
  go_wp2_with fail
  refine (HRE.out _ (HL.out.below B3.out)).mono ?_; rintro e w4 ⟨a4, c4, o4, rfl, hr4, hs4, hm4, hb4⟩
  have B4 := Lib.hid (bTrans B3.out hb4)
  have R4 := Lib.hid hr4
  have R2 := Lib.hid (R2.out.below hb4)
  have R3 := Lib.hid (R3.out.below hb4)
  have hl4 : o4.length ≤ m := by
    rw [← HLM.out]
    exact nodup_le _ _ (hs4.imp fun {a b} h => by omega) fun k hk => by
      obtain ⟨s, -, hs, hre⟩ := (hm4 k).1 hk
      cases hre with
      | refl => exact hs
      | step _ h => exact needsI_lt h
  have HS4 := Lib.hid hs4
  have HM4 := Lib.hid hm4
  clear hr4 hb4 B3 hs4 hm4
  obtain ⟨p, hpl⟩ : ∃ p, o4.length = p := ⟨_, rfl⟩
  rw [hpl] at hl4 R4 ⊢
  have HPL := Lib.hid hpl
  clear hpl
  go_wp2_with fail
  refine (HFI.out _ (HL.out.below B4.out)).mono ?_; rintro e w5 ⟨rfl, hb5⟩
  have B5 := Lib.hid (bTrans B4.out hb5)
  have R2 := Lib.hid (R2.out.below hb5)
  have R3 := Lib.hid (R3.out.below hb5)
  have R4 := Lib.hid (R4.out.below hb5)
  clear hb5 B4
  have e1 : (ce == ce) = true := by simp
  have e2 : (cn == cn) = true := by simp
  go_wp2_with fail
  refine (numbers_self a2 a3 q c2 q c3 (ordZ co) _ R2.out R3.out (by omega) (by omega)).mono ?_; rintro e w6 ⟨rfl, hb6⟩
  have B6 := Lib.hid (bTrans B5.out hb6)
  have R4 := Lib.hid (R4.out.below hb6)
  clear hb6 B5 R2 R3
  go_wp2_with fail
  refine (HRR.out _ (HL.out.below B6.out)).mono ?_; rintro e w7 ⟨a7, c7, o7, rfl, hr7, hs7, hm7, hb7⟩
  obtain rfl : o4 = o7 := rising_eq _ _ HS4.out hs7 fun k => (HM4.out k).trans (hm7 k).symm
  rw [HPL.out] at hr7 ⊢
  have B7 := Lib.hid (bTrans B6.out hb7)
  have R7 := Lib.hid hr7
  have R4 := Lib.hid (R4.out.below hb7)
  clear hr7 hb7 B6 hs7 hm7
  go_wp2_with fail
  refine (numbers_self a4 a7 p c4 p c7 (ordZ o4) _ R4.out R7.out (by omega) (by omega)).mono ?_; rintro e w8 ⟨rfl, hb8⟩
  have B8 := Lib.hid (bTrans B7.out hb8)
  clear hb8 B7 R4 R7
  go_wp2_with fail
  refine (HRF.out _ (HL.out.below B8.out)).mono ?_; rintro e w9 ⟨rfl, rfl⟩
  have e3 : (fz == fz) = true := by simp
  go_wp2_with fail
  go_ret
  exact ⟨rfl, B8.out⟩
theorem GraphCloses_walk (a : Option Addr) (l : List Obj) (c : Nat) (root : List UInt8) (z : Int) (w : World) (hl : RdO w a l) (hn : (∀ o ∈ l, o.name.length ≤ maxLen ∧ ∀ n ∈ o.needs, n.length ≤ maxLen) ∧ ∀ o ∈ l, o.needs.length ≤ maxLen) (hm : l.length ≤ maxLen) (hroot : root.length ≤ maxLen) :
    Calls Try.prog 3 #[.slice a l.length c, .string ⟨root.toArray⟩, .int .i64 z] w fun e w' => e = .returned (.bool true) ∧ Below w.heap.size w w' := by
  by_cases hs : shortB l 20 = true
  · obtain ⟨hnm, hm20⟩ := short_named hs hn.1
    exact closes_yes a l c root z w hl hs hnm hm20 hroot
  · exact closes_no a l c root z w hl hn.2 hm ((Bool.not_eq_true _).mp hs)
end Go.Proofs.Ytcafommklmepgaa

/- The program's Find: contract. -/
import Derived.Test.YthammjpadbbflaaHasG
import Derived.ScopeJumps
import Derived.WalkMore
namespace Go.Proofs.Ythammjpadbbflaa
set_option linter.unusedVariables false
set_option linter.unusedSimpArgs false
open Go.Joins Go.ChangeShapes Go.WideShapes Go.ChangeAt Go.RowKit

/-- a scope with one label to which the run jumps back: the pass from the label serves the first time, too -/
theorem wp_scope_again {P : Program} {a : Act} {w : World} {Q : Exit → Act → World → Prop} {c body : Code} (l : Nat) (J : Act → World → Prop) (μ : Act → World → Nat) (hf : findLabel c l = some (Code.seq .skip body))
    (first : (∀ a w, J a w → body.wp P (Exit.jump l J Q) a w) → c.wp P (Exit.jump l J Q) a w)
    (pass : ∀ a w, J a w → body.wp P (Exit.jump l (fun a' w' => J a' w' ∧ μ a' w' < μ a w) Q) a w) : (Code.scope c).wp P Q a w :=
  wp_scope_jumps l J μ hf (first fun a w h => Code.wp_mono (fun e a' w' => by cases e <;> simp only [Exit.jump] <;> first | exact id | exact fun ⟨x, y, z⟩ => ⟨x, y⟩) (pass a w h)) (fun a w h => wp_seq (wp_skip (pass a w h)))

theorem next_find (l : List Sym) (n : Nat) (name ver : List UInt8) (p : Nat) :
    (nextN l n (ofH name % n) p = 0 → findZ l name ver p = -1) ∧
    (∀ k, nextN l n (ofH name % n) p = k + 1 → ∃ h : k < l.length, p ≤ k ∧ inB n (ofH name % n) l[k] = true ∧ findZ l name ver p = findZ l name ver k) := by
  have step : ∀ d p, l.length - p = d → (nextN l n (ofH name % n) p = 0 → findZ l name ver p = -1) ∧
    (∀ k, nextN l n (ofH name % n) p = k + 1 → ∃ h : k < l.length, p ≤ k ∧ inB n (ofH name % n) l[k] = true ∧ findZ l name ver p = findZ l name ver k) := by
    intro d
    induction d with
    | zero =>
      intro p hd
      refine ⟨fun _ => findZ_end l name ver p (by omega), fun k hk => ?_⟩
      rw [nextN_end l n _ p (by omega)] at hk; omega
    | succ d ih =>
      intro p hd
      have hp : p < l.length := by omega
      by_cases hb : inB n (ofH name % n) l[p] = true
      · rw [nextN_hit l n _ p hp hb]
        refine ⟨fun h => by omega, fun k hk => ?_⟩
        obtain rfl : k = p := by omega
        exact ⟨hp, Nat.le_refl _, hb, rfl⟩
      · rw [Bool.not_eq_true] at hb
        have hm : hitS name ver l[p] = false := by
          rw [Bool.eq_false_iff]
          intro hh
          unfold hitS isB at hh
          simp only [Bool.and_eq_true, beq_iff_eq] at hh
          unfold inB at hb
          rw [hh.1, hh.2.1] at hb
          simp at hb
        rw [nextN_miss l n _ p hp hb, findZ_miss l name ver p hp hm]
        obtain ⟨h1, h2⟩ := ih (p + 1) (by omega)
        refine ⟨h1, fun k hk => ?_⟩
        obtain ⟨hkl, hle, r⟩ := h2 k hk
        exact ⟨hkl, by omega, r⟩
  exact step _ p rfl
theorem bucketsZ_get (l : List Sym) (n b : Nat) (h : b < n) : (i64s (bucketsZ l n n))[b]? = some (.int .i64 ((nextN l n b 0 : Nat) : Int)) := by simp [i64s, bucketsZ, h]
theorem chainZ_get (l : List Sym) (n j : Nat) (h : j < l.length) : (i64s (chainZ l n l.length))[j]? = some (.int .i64 ((chainN l n j : Nat) : Int)) := by simp [i64s, chainZ, h]
theorem is_sym (s : Sym) (name ver : List UInt8) (w : World) : Calls Try.prog 68 #[.agg #[.string ⟨s.name.toArray⟩, .string ⟨s.ver.toArray⟩, .int .u64 s.place, .int .u64 s.size, .int .i64 s.kind, .int .i64 s.bind, .int .i64 s.seen, .bool s.defd], .string ⟨name.toArray⟩, .string ⟨ver.toArray⟩] w fun e w' => e = .returned (.bool (isB s name ver)) ∧ Below w.heap.size w w' := is_any s name ver w
theorem find_none (a : Option Addr) (m c : Nat) (ch : Value) (name ver : List UInt8) (w : World) :
    Calls Try.prog 50 #[.agg #[.slice none 0 0, ch], .slice a m c, .string ⟨name.toArray⟩, .string ⟨ver.toArray⟩] w fun e w' => e = .returned (.int .i64 (-1)) ∧ Below w.heap.size w w' := by
  go_enter Try.func50, Try.ntmps50
  go_wp2_with fail
  try go_step3
  go_wp2_with fail
  try rw [Exit.noGoto_ret]
  go_ret
  exact ⟨rfl, bAlloc (Below.refl _ _) _⟩
set_option maxHeartbeats 1000000 in
theorem find_any (ab ac a : Option Addr) (l : List Sym) (cb cc c n : Nat) (name ver : List UInt8) (w : World) (hl : RdS w a l) (hm : l.length ≤ 1000000) (hn : 0 < n) (hn2 : n ≤ 64) (hnm : name.length < 9223372036854775808)
    (hb : Rd w ab n (i64s (bucketsZ l n n))) (hch : Rd w ac l.length (i64s (chainZ l n l.length))) :
    Calls Try.prog 50 #[.agg #[.slice ab n cb, .slice ac l.length cc], .slice a l.length c, .string ⟨name.toArray⟩, .string ⟨ver.toArray⟩] w fun e w' => e = .returned (.int .i64 (findZ l name ver 0)) ∧ Below w.heap.size w w' := by
  obtain ⟨r, hr⟩ : ∃ r, findZ l name ver 0 = r := ⟨_, rfl⟩
  rw [hr]
  have hq : ofH name % n < n := Nat.mod_lt _ hn
  obtain ⟨Bb, ob, rfl, hBb, hcb⟩ := hb.at_ hq
  rw [bucketsZ_get l n _ hq] at hcb
  have HBU := Lib.hid (fun w => bucket_any Bb ob n cb (.slice ac l.length cc) name hnm hn (by omega) w)
  have HL := Lib.hid hl
  have HR := Lib.hid hr
  have HCH := Lib.hid hch
  obtain ⟨q, hqq⟩ : ∃ q, ofH name % n = q := ⟨_, rfl⟩
  rw [hqq] at hcb hq HBU
  have HQ := Lib.hid hqq
  have HCB := Lib.hid hcb
  clear hl hr hch hb hcb hqq
  generalize hlm : l.length = m at *
  have HLM := Lib.hid hlm
  clear hlm
  have hbx := boxed (w := w) (cs := #[.slice (some ⟨Bb, ob, none⟩) n cb, .slice ac m cc]) (t := 100) (Below.refl _ _)
  have gcb0 := (bAlloc (Below.refl _ _) (.cells #[.slice (some ⟨Bb, ob, none⟩) n cb, .slice ac m cc] 100)).cell (p := ⟨Bb, ob + q, none⟩) hBb |>.trans HCB.out
  have hk0 : (w.alloc (.cells #[.slice (some ⟨Bb, ob, none⟩) n cb, .slice ac m cc] 100)).cell? ⟨w.heap.size, 0, none⟩ = some (.slice (some ⟨Bb, ob, none⟩) n cb) ∧ (w.alloc (.cells #[.slice (some ⟨Bb, ob, none⟩) n cb, .slice ac m cc] 100)).cell? ⟨w.heap.size, 1, none⟩ = some (.slice ac m cc) ∧ (w.alloc (.cells #[.slice (some ⟨Bb, ob, none⟩) n cb, .slice ac m cc] 100)).cell? ⟨Bb, ob + q, none⟩ = some (.int .i64 ((nextN l n q 0 : Nat) : Int)) := ⟨(hbx 0).trans rfl, (hbx 1).trans rfl, gcb0⟩
  have KEEP0 := Lib.hid hk0
  obtain ⟨b0, b1, b2⟩ := hk0
  clear hbx gcb0
  have hn0 : ((n : Int) == 0) = false := by rw [beq_eq_false_iff_ne]; omega
  go_enter Try.func50, Try.ntmps50
  go_wp2_with fail
  refine wp_scope_again 0 (fun a' w' => Hid (Below w.heap.size w w' ∧ w'.cell? ⟨w.heap.size, 0, none⟩ = some (.slice (some ⟨Bb, ob, none⟩) n cb) ∧ w'.cell? ⟨w.heap.size, 1, none⟩ = some (.slice ac m cc)) ∧ ∃ (i t p : Nat) (u5 u6 u7 u11 u12 u13 u14 u15 u16 u17 u18 u19 u20 u21 u22 u23 u24 u25 u26 u27 u28 u29 u30 u31 u32 u33 u34 u35 u36 u37 u38 u39 u40 u41 u42 u43 u44 u45 u46 u47 u48 u49 u50 u51 u52 u53 u54 u55 u56 u57 u58 u59 : Value), a' = { tmps := #[.agg #[.slice (some ⟨Bb, ob, none⟩) n cb, .slice ac m cc], .slice a m c, .string ⟨name.toArray⟩, .string ⟨ver.toArray⟩, .pointer (some ⟨w.heap.size, 0, none⟩), u5, u6, u7, .int .i64 0, .int .i64 (i : Int), .int .i64 (t : Int), u11, u12, u13, u14, u15, u16, u17, u18, u19, u20, u21, u22, u23, u24, u25, u26, u27, u28, u29, u30, u31, u32, u33, u34, u35, u36, u37, u38, u39, u40, u41, u42, u43, u44, u45, u46, u47, u48, u49, u50, u51, u52, u53, u54, u55, u56, u57, u58, u59], defers := [] } ∧ Hid (i = nextN l n q p ∧ findZ l name ver p = r ∧ m ≤ t + p ∧ p ≤ m ∧ t ≤ m)) (fun a' _ => (intOf (a'.tmps.getD 10 undef)).toNat) rfl ?_ ?_
  · intro hrest
    go_wp2_with fail
    have HREST := Lib.hid hrest
    clear hrest
    go_region_held3 (fun W => W.cell? ⟨w.heap.size, 0, none⟩ = some (.slice (some ⟨Bb, ob, none⟩) n cb) ∧ W.cell? ⟨w.heap.size, 1, none⟩ = some (.slice ac m cc) ∧ W.cell? ⟨Bb, ob + q, none⟩ = some (.int .i64 ((nextN l n q 0 : Nat) : Int)))
      (first | exact ⟨(hc1 0).trans rfl, (hc1 1).trans rfl, gcb⟩ | exact KEEP0.out | go_keep)
      (first
        | (go_at_call 67; (with_reducible refine (HBU.out _).mono ?_); rintro e w1 ⟨rfl, hb⟩; have HB1 := Lib.hid (bTrans (Below.drew (Below.refl _ _)) hb); have hc1 := boxed HB1.out; have HB2 := Lib.hid (bTrans (bAlloc (Below.refl _ _) _) HB1.out); have gcb := (HB2.out.cell (p := ⟨Bb, ob + q, none⟩) hBb).trans HCB.out; clear hb))
    go_wp2_with fail
    go_step3
    have hk := boxed HB1.out
    refine ‹∀ (a : Act) (w : World), Code.wp Try.prog _ _ a w → _› _ _ (HREST.out _ _ ?_)
    exact ⟨Lib.hid ⟨HB2.out, (hk 0).trans rfl, (hk 1).trans rfl⟩, nextN l n q 0, m, 0, _, _, _, _, _, _, _, _, _, _, _, _, _, _, _, _, _, _, _, _, _, _, _, _, _, _, _, _, _, _, _, _, _, _, _, _, _, _, _, _, _, _, _, _, _, _, _, _, _, _, _, _, rfl, Lib.hid ⟨rfl, HR.out, by omega, by omega, by omega⟩⟩
  · rintro a' w' ⟨HW, i, t, p, u5, u6, u7, u11, u12, u13, u14, u15, u16, u17, u18, u19, u20, u21, u22, u23, u24, u25, u26, u27, u28, u29, u30, u31, u32, u33, u34, u35, u36, u37, u38, u39, u40, u41, u42, u43, u44, u45, u46, u47, u48, u49, u50, u51, u52, u53, u54, u55, u56, u57, u58, u59, rfl, HI⟩
    obtain ⟨hB, h0, h1⟩ := HW.out
    have HB := Lib.hid hB
    clear hB HW b0 b1 b2 hn0
    by_cases hi : i = 0
    · have d1 : decide ((i : Int) < 1) = true := decide_eq_true (by omega)
      have e := (next_find l n name ver p).1 (by rw [HQ.out, ← HI.out.1]; exact hi)
      have e2 : r = -1 := by rw [← HI.out.2.1]; exact e
      have E := Lib.hid e2
      clear hi e e2
      go_wp2_with fail
      simp only [Exit.jump]
      go_ret
      exact ⟨ret_int E.out.symm, HB.out⟩
    · obtain ⟨k, rfl⟩ : ∃ k, i = k + 1 := ⟨i - 1, by omega⟩
      obtain ⟨hkl, hpk, hin, hfz⟩ := (next_find l n name ver p).2 k (by rw [HQ.out, ← HI.out.1])
      obtain ⟨-, i2, i3, i4, i5⟩ := HI.out
      rw [hfz] at i2
      have hkm : k < m := by rw [← HLM.out]; exact hkl
      obtain ⟨t, rfl⟩ : ∃ x, t = x + 1 := ⟨t - 1, by omega⟩
      have d1 : decide ((k : Int) + 1 < 1) = false := decide_eq_false (by omega)
      have d2 : decide ((m : Int) < (k : Int) + 1) = false := decide_eq_false (by omega)
      have d4 : ((t : Int) + 1 == 0) = false := by rw [beq_eq_false_iff_ne]; omega
      obtain ⟨B, o, rfl, hBl, hc⟩ := (HL.out.below HB.out).at_ hkl
      obtain ⟨s, hs⟩ : ∃ s, l[k] = s := ⟨_, rfl⟩
      rw [hs] at hc hin
      have HS := Lib.hid hs
      have HC := Lib.hid hc
      have HIN := Lib.hid hin
      have HI2 := Lib.hid i2
      have HHI := Lib.hid hi
      obtain ⟨g0, g1, g2, g3, g4, g5, g6, g7⟩ := hc
      clear hs hin hfz i2 hi
      rw [show (((k + 1 : Nat) : Int)) = (k : Int) + 1 by omega, show (((t + 1 : Nat) : Int)) = (t : Int) + 1 by omega]
      go_wp2_with fail
      refine (is_sym s name ver _).mono ?_; rintro e w1 ⟨rfl, hb1⟩
      have HB1 := Lib.hid (bTrans HB.out hb1)
      have hk0 := (hb1.cell (p := ⟨w.heap.size, 0, none⟩) (heap_lt_of_cell h0)).trans h0
      have HK0 := Lib.hid hk0
      clear hk0
      have hk1 := (hb1.cell (p := ⟨w.heap.size, 1, none⟩) (heap_lt_of_cell h1)).trans h1
      have hchk := (HCH.out.below HB1.out).at_ hkm
      obtain ⟨Bc, oc, rfl, hBc, hcc⟩ := hchk
      have hcg := chainZ_get l n k hkl
      rw [HLM.out] at hcg
      rw [hcg] at hcc
      clear hb1 h0 h1 g0 g1 g2 g3 g4 g5 g6 g7 HB hcg
      by_cases his : isB s name ver = true
      · have hit : hitS name ver l[k] = true := by
          rw [HS.out]; unfold hitS; rw [his, Bool.and_true]
          have := HIN.out
          unfold inB at this
          simp only [Bool.and_eq_true] at this
          exact this.1
        have e := findZ_hit l name ver k hkl hit
        rw [HI2.out] at e
        have E := Lib.hid e
        clear hit e
        rw [his]
        go_wp2_with fail
        simp only [Exit.jump]
        go_ret
        exact ⟨ret_int (by have := E.out; omega), HB1.out⟩
      · rw [Bool.not_eq_true] at his
        have hit : hitS name ver l[k] = false := by
          rw [HS.out]; unfold hitS; rw [his, Bool.and_false]
        have e := findZ_miss l name ver k hkl hit
        rw [HI2.out] at e
        have hcn : chainN l n k = nextN l n q (k + 1) := by
          have hin := HIN.out
          unfold inB at hin
          simp only [Bool.and_eq_true, beq_iff_eq] at hin
          have := chainN_yes l n k hkl (by rw [HS.out]; exact hin.1)
          rw [this, HS.out, hin.2, HQ.out]
        have E := Lib.hid e
        have HCN := Lib.hid hcn
        clear hit e hcn
        rw [his]
        go_wp2_with fail
        go_step3
        refine And.intro rfl (And.intro (And.intro (Lib.hid ⟨HB1.out, HK0.out, hk1⟩) ⟨chainN l n k, t, k + 1, _, _, _, _, _, _, _, _, _, _, _, _, _, _, _, _, _, _, _, _, _, _, _, _, _, _, _, _, _, _, _, _, _, _, _, _, _, _, _, _, _, _, _, _, _, _, _, _, _, _, _, _, rfl, Lib.hid ⟨HCN.out, E.out.symm, by omega, by omega, by omega⟩⟩) ?_)
        simp [intOf]
end Go.Proofs.Ythammjpadbbflaa
